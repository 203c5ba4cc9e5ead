import PyProof.Rows.All
import Wide.All
import OpenK.AllK
import Wide.FinOn
import KE.KStateDown
import HandS.Base
import HandS.Call
import HandS.List
import HandS.Comp
import HandS.Ends
import HandS.Dict
import HandS.Iter
import HandS.Text
import HandS.More
import HandS.Words
import HandS.WordsList
import HandS.WordsDict
import HandS.WordsExc
import HandS.Defaults
import HandS.Wide
import HandS.IsInst
import HandS.Exc
import HandS.TryOnly
import HandS.TryMany
import HandS.Flow
import HandS.StrMore
import HandS.Codes
import HandS.Walk
import PyProof.ReprReads
import PyProof.ReprRoads
import HandS.HeadEnd
import PyProof.ListStr
import PyProof.ReprLen
import HandS.Star
import KE.GoesEnum
import PyProof.Rows.ReprShort
import PyProof.Rows.StrCut
import PyProof.Rows.StrClose5
import PyProof.Rows.StrJoinRep
import KE.GoesZip
import KE.KDictZip
import HandS.Style
import PyProof.Rows.StrRev
import HandS.Set
import HandS.SetFor
import HandS.Strs
import PyProof.SetKind
import PyProof.StrWalks
import PyProof.Rows.SetFrom
import HandS.ExcOwn
import HandS.ExcInit
import HandS.ExcField
import HandS.ExcIs
import HandS.HeadHook1
import HandS.HeadHook2
import KE.KExcIs
import PyProof.TupleIter
import PyProof.WalksMore
import HandS.FStr
import HandS.Replace
import HandS.NoneIn
import PyProof.P3Eq
import KE.KFmtOwn
import HandS.Zip0
import HandS.Head0
import HandS.Head1
import HandS.Head2
import PySem.Challenge.RW_cellscript_k23_blocks_by_rows
set_option Elab.async false
set_option linter.all false
set_option maxRecDepth 100000
set_option maxHeartbeats 4000000
set_option maxRecDepth 100000
set_option maxHeartbeats 2000000
namespace Z
open PySem PySem.Spec PyProof.Rows L2
/-! ### operators that look at their values -/
section
variable {X : Cx}
/-- xs[i] of a list, as an augmented store reads it -/
def gIxL (K : PySem.W.Frag) : V → V → Hp → VK → Prop := fun x y H Q => ∃ (p : Addr) (xs : List V) (i : Nat) (v : V), x = .ref p ∧ y = .int (i : Int) ∧ SqL K H p xs ∧ xs[i]? = some v ∧ Q v H
theorem pget_list : PGet X (gIxL X.K) := by
  intro pins s σ H o i ov iv Q I ro ri h
  obtain ⟨p, xs, i, z, rfl, rfl, hq, he, q⟩ := h
  cases ro
  obtain ⟨t, rfl⟩ := ri
  obtain ⟨its, r, pl, hz⟩ := I.list hq
  obtain ⟨w, ew, rw'⟩ := r.get he
  have hl := r.length
  have hn := line63
  have hj : i < its.length := by
    have := (List.getElem?_eq_some_iff.mp ew).1
    exact this
  exact wpAny_getItem_list pl.isList (by omega) (by omega) (by simpa using ew) ⟨z, H, I, rw', q⟩
end

/-! a + b: ints, texts, lists -/
def rAddZ : R2 := fun x y H Q => match x, y with
  | .int i, .int j => Q (.int (i + j)) H
  | .str i, .str j => i.length + j.length ≤ sizeLine ∧ Q (.str (i ++ j)) H
  | .ref l, .ref b => ∃ xs zs, H l = some (.lst xs) ∧ H b = some (.lst zs) ∧ xs.length + zs.length ≤ sizeLine ∧ ∀ p, H p = none → Q (.ref p) (upd H p (.lst (xs ++ zs)))
  | _, _ => False
section
variable {X : Cx}
theorem op_addZ : OpR X (binaryOp .Add) rAddZ := by
  intro pins s σ H x y v u Q I rx ry h
  cases x <;> cases y <;> first
    | exact h.elim
    | exact op_add pins s σ H _ _ v u Q I rx ry ⟨_, _, rfl, rfl, h⟩
    | exact op_add_str pins s σ H _ _ v u Q I rx ry ⟨_, _, rfl, rfl, h.1, h.2⟩
    | (obtain ⟨xs, zs, h1, h2, h3, h4⟩ := h; exact op_cat pins s σ H _ _ v u Q I rx ry ⟨_, _, xs, zs, rfl, rfl, h1, h2, h3, h4⟩)
/-! a * b -/
def rMulZ : R2 := fun x y H Q => match x, y with
  | .int i, .int j => (CMul i j ∨ CMulW i j) ∧ Q (.int (i * j)) H
  | .str a, .int k => MulOk a k ∧ Q (.str (Txt.mul a k)) H
  | .ref l, .int k => ∃ xs, H l = some (.lst xs) ∧ -(2 ^ 63) ≤ k ∧ k < 2 ^ 63 ∧ xs.length * k.toNat ≤ sizeLine ∧ ∀ p, H p = none → Q (.ref p) (upd H p (.lst (List.replicate k.toNat xs).flatten))
  | _, _ => False
theorem op_mulZ : OpR X (binaryOp .Mult) rMulZ := by
  intro pins s σ H x y v u Q I rx ry h
  cases x <;> cases y <;> first
    | exact h.elim
    | (obtain ⟨h1 | h1, h2⟩ := h
       · exact op_mul pins s σ H _ _ v u Q I rx ry ⟨_, _, rfl, rfl, h1, h2⟩
       · exact op_mulW pins s σ H _ _ v u Q I rx ry ⟨_, _, rfl, rfl, h1, h2⟩)
    | (obtain ⟨h1, h2⟩ := h; obtain ⟨t, rfl⟩ := rx; obtain ⟨t', rfl⟩ := ry; exact SB.mul h1 fun t2 tk => ⟨.str _, H, I.tok _, ⟨_, rfl⟩, h2⟩)
    | (obtain ⟨xs, h1, h2, h3, h4, h5⟩ := h; exact op_rep pins s σ H _ _ v u Q I rx ry ⟨_, _, xs, rfl, rfl, h1, h2, h3, h4, h5⟩)
/-! comparisons -/
def rCmpZ (g : Int → Int → Bool) (f : Str → Str → Bool) : R2 := fun x y H Q => match x, y with
  | .int i, .int j => Q (.bl (g i j)) H
  | .str i, .str j => Q (.bl (f i j)) H
  | _, _ => False
theorem cmpZ {o : Value → Value → Sem Value} {g : Int → Int → Bool} {f : Str → Str → Bool} (h1 : OpR X o (rI0 fun i j => .bl (g i j))) (h2 : OpR X o (fun x y H Q => ∃ i j, x = .str i ∧ y = .str j ∧ Q (.bl (f i j)) H)) : OpR X o (rCmpZ g f) := by
  intro pins s σ H x y v u Q I rx ry h
  cases x <;> cases y <;> first
    | exact h.elim
    | exact h1 pins s σ H _ _ v u Q I rx ry ⟨_, _, rfl, rfl, h⟩
    | exact h2 pins s σ H _ _ v u Q I rx ry ⟨_, _, rfl, rfl, h⟩
abbrev ltS (i j : Str) : Bool := decide (i.cps.toList < j.cps.toList)
abbrev rLtZ : R2 := rCmpZ (fun i j => decide (i < j)) ltS
abbrev rLeZ : R2 := rCmpZ (fun i j => decide (i ≤ j)) (fun i j => !ltS j i)
abbrev rGtZ : R2 := rCmpZ (fun i j => decide (j < i)) (fun i j => ltS j i)
abbrev rGeZ : R2 := rCmpZ (fun i j => decide (j ≤ i)) (fun i j => !ltS i j)
theorem op_ltZ : OpR X (compareOp .Lt) rLtZ := cmpZ op_lt op_lt_str
theorem op_leZ : OpR X (compareOp .LtE) rLeZ := cmpZ op_le op_le_str
theorem op_gtZ : OpR X (compareOp .Gt) rGtZ := cmpZ op_gt op_gt_str
theorem op_geZ : OpR X (compareOp .GtE) rGeZ := cmpZ op_ge op_ge_str
/-! == and !=: flat things by their values, else data of any depth -/
def isRef : V → Bool
  | .ref _ => true
  | _ => false
def rEqZ (K : PySem.W.Frag) (f : Bool → Bool) : R2 := fun x y H Q => if (isRef x || isRef y) = true then ∃ d e, Dp K H x d ∧ Dp K H y e ∧ SeqAt.shaped d = true ∧ SeqAt.shaped e = true ∧ Q (.bl (f (PyData.eqv d e))) H else scal x y = true ∧ Q (.bl (f (decide (x = y)))) H
theorem op_eqZ (hu : X.A.units + 64 < cLine) : OpR X (compareOp .Eq) (rEqZ X.K id) := by
  intro pins s σ H x y v u Q I rx ry h
  unfold rEqZ at h
  split at h
  · exact op_eqD hu pins s σ H x y v u Q I rx ry h
  · exact op_eq pins s σ H x y v u Q I rx ry h
theorem op_neZ (hu : X.A.units + 64 < cLine) : OpR X (compareOp .NotEq) (rEqZ X.K not) := by
  intro pins s σ H x y v u Q I rx ry h
  unfold rEqZ at h
  split at h
  · exact op_neD hu pins s σ H x y v u Q I rx ry h
  · exact op_ne pins s σ H x y v u Q I rx ry h
/-! in -/
def rInZ (K : PySem.W.Frag) (f : Bool → Bool) : R2 := fun x y H Q => match y with
  | .str z => ∃ c : Nat, x = .str ⟨#[c]⟩ ∧ Q (.bl (f (decide (c ∈ z.cps.toList)))) H
  | .ref p => ∃ xs, (SqL K H p xs ∨ SqT K H p xs) ∧ flatV x = true ∧ xs.all flatV = true ∧ Q (.bl (f (inV x xs))) H
  | _ => False
theorem op_inZ : OpR X (compareOp .In) (rInZ X.K id) := by
  intro pins s σ H x y v u Q I rx ry h
  cases y <;> first
    | exact h.elim
    | (obtain ⟨c, rfl, h⟩ := h; exact op_in_sign pins s σ H _ _ v u Q I rx ry ⟨_, _, rfl, rfl, h⟩)
    | (obtain ⟨xs, h1, h2, h3, h4⟩ := h; exact op_in_seq pins s σ H _ _ v u Q I rx ry ⟨_, xs, rfl, h1, h2, h3, h4⟩)
theorem op_notInZ : OpR X (compareOp .NotIn) (rInZ X.K not) := by
  intro pins s σ H x y v u Q I rx ry h
  cases y <;> first
    | exact h.elim
    | (obtain ⟨c, rfl, h⟩ := h; exact op_notIn_sign pins s σ H _ _ v u Q I rx ry ⟨_, _, rfl, rfl, h⟩)
    | (obtain ⟨xs, h1, h2, h3, h4⟩ := h; exact op_notIn_seq pins s σ H _ _ v u Q I rx ry ⟨_, xs, rfl, h1, h2, h3, h4⟩)
/-! items and slices -/
def rIxZ (K : PySem.W.Frag) : R2 := fun x y H Q => match x with
  | .str z => ∃ i c, y = .int i ∧ z.length ≤ sizeLine ∧ atI z.cps.toList i = some c ∧ Q (.str ⟨#[c]⟩) H
  | .ref p => ∃ xs i v, y = .int i ∧ (SqL K H p xs ∨ SqT K H p xs) ∧ atI xs i = some v ∧ Q v H
  | _ => False
theorem ix_Z : IxR X (rIxZ X.K) := by
  intro value slice pins s σ H x y v u Q I rx ry h hs
  cases x <;> first
    | exact h.elim
    | (obtain ⟨i, c, rfl, h1, h2, h3⟩ := h; exact ix_str value slice pins s σ H _ _ v u Q I rx ry ⟨_, i, c, rfl, rfl, h1, h2, h3⟩ hs)
    | (obtain ⟨xs, i, z, rfl, h1 | h1, h2, h3⟩ := h
       · exact ix_list value slice pins s σ H _ _ v u Q I rx ry ⟨_, xs, i, z, rfl, rfl, h1, h2, h3⟩ hs
       · exact ix_tup value slice pins s σ H _ _ v u Q I rx ry ⟨_, xs, i, z, rfl, rfl, h1, h2, h3⟩ hs)
def rSlZ (K : PySem.W.Frag) : V → Option Int → Option Int → Hp → VK → Prop := fun x lo hi H Q => match x with
  | .str z => z.length ≤ sizeLine ∧ Q (.str (Txt.slice z lo hi)) H
  | .ref a => ∃ xs, SqL K H a xs ∧ ∀ p, H p = none → Q (.ref p) (upd H p (.lst (cutV xs lo hi)))
  | _ => False
theorem sl_Z : SlR X (rSlZ X.K) := by
  intro pins s σ H x v vl vu lo hi sl Q I rx hs pl pu h
  cases x <;> first
    | exact h.elim
    | exact C8.sl_txt pins s σ H _ v vl vu lo hi sl Q I rx hs pl pu ⟨_, rfl, h.1, h.2⟩
    | (obtain ⟨xs, h1, h2⟩ := h; exact sl_list pins s σ H _ v vl vu lo hi sl Q I rx hs pl pu ⟨_, xs, rfl, h1, h2⟩)
/-! len, list, tuple -/
def rLenZ (K : PySem.W.Frag) : List V → Hp → VK → Prop := fun vs H Q => match vs with
  | [.str z] => z.length ≤ sizeLine ∧ Q (.int z.length) H
  | [.ref p] => ∃ xs, (SqL K H p xs ∨ SqT K H p xs) ∧ Q (.int xs.length) H
  | _ => False
theorem call_lenZ : CallR X (.builtin "len") (rLenZ X.K) := by
  intro pins s σ H xs us Q I r h
  unfold rLenZ at h
  split at h
  · exact call_len pins s σ H _ us Q I r ⟨_, _, rfl, ⟨h.1, rfl⟩, h.2⟩
  · obtain ⟨xs, h1, h2⟩ := h
    exact call_len_seq pins s σ H _ us Q I r ⟨_, xs, rfl, h1, h2⟩
  · exact h.elim
end
/-! ### defs that are called by their names -/
structure Cl (P : Program) (w : World) (K : PySem.W.Frag) (mg : Str → Option Value) (base : Heap) (CX : CXT) (k : Nat) (x : Str) (sp : Sp) : Prop where
  ex : ∃ (f : Addr) (fd : FuncData) (ps : List Str), FnOk P w K mg base CX k f fd ps sp ∧ mg x = some (.ref f) ∧ PySem.W.keepIn K (.ref f) = true ∧ Binds K fd ps []
section
variable {X : Cx} {k j : Nat} {x : Str} {sp : Sp} {CX : CXT} {E : XK} {p pos : Pos} {e : Expr} {es : List Expr} {t : TA}
theorem pe_cl (c : Cl X.prog X.w X.K X.mg X.base CX k x sp) (hr : Room j X.A) (hk : k ≤ j) (hg : Gl X x) (hx : Passes CX X E) (ha : PA X (e :: es) t)
    (hdb : (x == ("__debug__" : Str)) = false := by decide) (he : starEach (e :: es) X.env = (false, eval e X.env) :: starEach es X.env := by rfl) (hpl : (backTo pos (starEach es X.env)).any (·.1) = false := by rfl) :
    PE X (.Call (.Name x p) (e :: es) [] pos) (tCall sp [] E t) := by
  obtain ⟨f, fd, ps, F, hm, kp, b⟩ := c.ex
  exact pe_call F (hr.mono hk) hg hm kp b .nil hx ha hdb he hpl
end
end Z

set_option maxRecDepth 100000
set_option maxHeartbeats 2000000
namespace Z
open PySem PySem.Spec PyProof.Rows L2
/-! ### heaps: what a bag's draws leave -/
/-- the heap without some addresses -/
def hd (B : Addr → Bool) (H : Hp) : Hp := fun a => if B a = true then none else H a
/-- only what stands at b may be otherwise; new things may stand -/
def Go (b : Addr) (H H' : Hp) : Prop := ∀ a o, a ≠ b → H a = some o → H' a = some o
theorem hd_some {B : Addr → Bool} {H : Hp} {a : Addr} {o : HO} (h : hd B H a = some o) : B a = false ∧ H a = some o := by
  unfold hd at h
  split at h
  · cases h
  · rename_i h1
    exact ⟨by simpa using h1, h⟩
theorem hd_of {B : Addr → Bool} {H : Hp} {a : Addr} {o : HO} (h1 : B a = false) (h : H a = some o) : hd B H a = some o := by
  unfold hd
  rw [h1, if_neg Bool.false_ne_true]
  exact h
theorem hd_same (B : Addr → Bool) (H : Hp) : Same (hd B H) H := fun _ _ h => (hd_some h).2
theorem Go.refl (b : Addr) (H : Hp) : Go b H H := fun _ _ _ h => h
theorem Go.trans {b : Addr} {H H1 H2 : Hp} (x : Go b H H1) (y : Go b H1 H2) : Go b H H2 := fun a o n h => y a o n (x a o n h)
theorem Go.of {b : Addr} {H H' : Hp} (x : Same H H') : Go b H H' := fun a o _ h => x a o h
theorem Go.hd {b : Addr} {B : Addr → Bool} {H H' : Hp} (x : Go b H H') (hb : B b = true) : Same (hd B H) (hd B H') := fun a o h => by
  obtain ⟨h1, h2⟩ := hd_some h
  exact hd_of h1 (x a o (fun e => by rw [e, hb] at h1; cases h1) h2)
theorem Same.hd {B : Addr → Bool} {H H' : Hp} (x : Same H H') : Same (hd B H) (hd B H') := fun a o h => by
  obtain ⟨h1, h2⟩ := hd_some h
  exact hd_of h1 (x a o h2)
theorem same_new {H : Hp} {p : Addr} {o : HO} (h : H p = none) : Same H (upd H p o) := fun b x e => by
  rw [upd_ne (ne_of_none e h)]
  exact e
theorem same_mut {H H' : Hp} {p : Addr} {o : HO} (x : Same H H') (h : H p = none) : Same H (upd H' p o) := fun b u e => by
  rw [upd_ne (ne_of_none e h)]
  exact x b u e
theorem go_mut {b : Addr} {H H' : Hp} {o : HO} (x : Go b H H') : Go b H (upd H' b o) := fun a u n e => by
  rw [upd_ne n]
  exact x a u n e
theorem go_new {b : Addr} {H H' : Hp} {p : Addr} {o : HO} (x : Go b H H') (h : H p = none) : Go b H (upd H' p o) := fun a u n e => by
  rw [upd_ne (ne_of_none e h)]
  exact x a u n e
theorem Same.tup {K : PySem.W.Frag} {H H' : Hp} {a : Addr} {xs : List V} (e : Same H H') (h : SqT K H a xs) : SqT K H' a xs := by
  rcases h with (h | ⟨o, h⟩) | h
  · exact .inl (.inl (e _ _ h))
  · exact .inl (.inr ⟨o, e _ _ h⟩)
  · exact .inr h
theorem sq_of {K : PySem.W.Frag} {H : Hp} {a : Addr} {xs : List V} (h : H a = some (.lst xs)) : SqL K H a xs := .inl (.inl h)
theorem st_of {K : PySem.W.Frag} {H : Hp} {a : Addr} {xs : List V} (h : H a = some (.tup xs)) : SqT K H a xs := .inl (.inl h)
/-! ### the bag -/
def bagL (x0 x1 x2 : Int) (c : Addr) : HO := .lst [.int x0, .int x1, .int x2, .ref c]
structure BagC (K : PySem.W.Frag) (H : Hp) (b c : Addr) (cs : List Int) (x0 x1 x2 : Int) : Prop where
  at_ : H b = some (bagL x0 x1 x2 c)
  cells : SqL K H c (cs.map V.int)
  ne : c ≠ b
  h0 : 0 ≤ x0
  h1 : 0 ≤ x1 ∧ x1 < 2147483647
  h2 : 0 ≤ x2
  hc : ∀ z ∈ cs, 0 ≤ z
/-- a bag: where it stands, where its cells stand, its cells -/
structure Bg where
  b : Addr
  c : Addr
  cs : List Int
def Bag (K : PySem.W.Frag) (H : Hp) (ω : Bg) : Prop := ∃ x0 x1 x2, BagC K H ω.b ω.c ω.cs x0 x1 x2
theorem seq_ne {K : PySem.W.Frag} {H : Hp} {b c : Addr} {o : HO} {xs : List V} (h : SqL K H c xs) (n : c ≠ b) : SqL K (upd H b o) c xs := by
  rcases h with (h | ⟨u, h⟩) | h
  · exact .inl (.inl (by rw [upd_ne n]; exact h))
  · exact .inl (.inr ⟨u, by rw [upd_ne n]; exact h⟩)
  · exact .inr h
theorem BagC.set {K : PySem.W.Frag} {H : Hp} {b c : Addr} {cs : List Int} {x0 x1 x2 : Int} (g : BagC K H b c cs x0 x1 x2) {y0 y1 y2 : Int} (h0 : 0 ≤ y0) (h1 : 0 ≤ y1 ∧ y1 < 2147483647) (h2 : 0 ≤ y2) : BagC K (upd H b (bagL y0 y1 y2 c)) b c cs y0 y1 y2 :=
  ⟨upd_same, seq_ne g.cells g.ne, g.ne, h0, h1, h2, g.hc⟩
theorem Bag.same {K : PySem.W.Frag} {H H' : Hp} {ω : Bg} (g : Bag K H ω) (e : Same H H') : Bag K H' ω := by
  obtain ⟨x0, x1, x2, g⟩ := g
  exact ⟨x0, x1, x2, e _ _ g.at_, e.seq g.cells, g.ne, g.h0, g.h1, g.h2, g.hc⟩
theorem Bag.some {K : PySem.W.Frag} {H : Hp} {ω : Bg} (g : Bag K H ω) : ∃ o, H ω.b = some o := by
  obtain ⟨x0, x1, x2, g⟩ := g
  exact ⟨_, g.at_⟩
/-- a draw: any number from 0 below m -/
def spTake (K : PySem.W.Frag) : Sp := fun vs H Q _ => ∃ (ω : Bg) (m : Int), vs = [.ref ω.b, .int m] ∧ Bag K H ω ∧ 0 < m ∧ m < 2 ^ 62 ∧
  ∀ (v : Int) (H' : Hp), 0 ≤ v → v < m → Bag K H' ω → Go ω.b H H' → Q (.int v) H'
end Z

set_option maxRecDepth 100000
set_option maxHeartbeats 2000000
namespace Z
open PySem PySem.Spec PyProof.Rows L2
/-! ### readings that reckon by themselves -/
@[reducible] def onB (x : V) (Q : Bool → Prop) : Prop := match x with
  | .bl k => Q k
  | _ => False
@[reducible] def onI (x : V) (Q : Int → Prop) : Prop := match x with
  | .int k => Q k
  | _ => False
@[reducible] def onS (x : V) (Q : Str → Prop) : Prop := match x with
  | .str k => Q k
  | _ => False
@[reducible] def onR (x : V) (Q : Addr → Prop) : Prop := match x with
  | .ref k => Q k
  | _ => False
@[reducible] def onV (o : Option (Option V)) (Q : V → Prop) : Prop := match o with
  | some (some v) => Q v
  | _ => False
theorem onB_ex {x : V} {Q : Bool → Prop} (h : onB x Q) : ∃ k, x = .bl k ∧ Q k := by
  cases x <;> first | exact ⟨_, rfl, h⟩ | exact h.elim
theorem onI_ex {x : V} {Q : Int → Prop} (h : onI x Q) : ∃ k, x = .int k ∧ Q k := by
  cases x <;> first | exact ⟨_, rfl, h⟩ | exact h.elim
theorem onS_ex {x : V} {Q : Str → Prop} (h : onS x Q) : ∃ k, x = .str k ∧ Q k := by
  cases x <;> first | exact ⟨_, rfl, h⟩ | exact h.elim
theorem onR_ex {x : V} {Q : Addr → Prop} (h : onR x Q) : ∃ k, x = .ref k ∧ Q k := by
  cases x <;> first | exact ⟨_, rfl, h⟩ | exact h.elim
theorem onV_ex {o : Option (Option V)} {Q : V → Prop} (h : onV o Q) : ∃ v, o = some (some v) ∧ Q v := by
  rcases o with _ | _ | v <;> first | exact ⟨_, rfl, h⟩ | exact h.elim
theorem onB_eq {x : V} {Q : Bool → Prop} : onB x Q = ∃ k, x = .bl k ∧ Q k := propext ⟨onB_ex, fun ⟨k, e, h⟩ => by subst e; exact h⟩
theorem onV_eq {o : Option (Option V)} {Q : V → Prop} : onV o Q = ∃ v, o = some (some v) ∧ Q v := propext ⟨onV_ex, fun ⟨k, e, h⟩ => by subst e; exact h⟩
def zVar (i : Nat) : TE := fun σ H Q => onV σ[i]? fun v => Q v H
theorem zVar_eq (i : Nat) : zVar i = tVar i := by
  funext σ H Q
  exact onV_eq
section
variable {X : Cx}
theorem zv (i : Nat) {x : Str} {pos : Pos} (hN : X.N[i]? = some x := by rfl) (hv : Vis X.env.scope x := by first | exact Or.inl rfl | exact Or.inr (Or.inl rfl) | exact Or.inr (Or.inr rfl)) (hd : (x == ("__debug__" : Str)) = false := by decide)
    (hcd : (x == ("__classdict__" : Str)) = false := by decide) : PE X (.Name x pos) (zVar i) := by
  rw [zVar_eq]
  exact pe_var hN hv hd hcd
def zTest (t : TE) : TT := fun σ H Q => t σ H fun x H' => onB x fun k => Q k H'
theorem zTest_eq (t : TE) : zTest t = tTest t := by
  funext σ H Q
  unfold zTest tTest
  congr
  funext x H'
  exact onB_eq
theorem pz_cmp {a b : Expr} {ta tb : TE} {pos : Pos} {op : CmpOp} {r : R2} (ho : OpR X (compareOp op) r) (ha : PE X a ta) (hb : PE X b tb) (hm : behindInMarks op b = false) : PT X (.Compare a [op] [b] pos) (zTest (tOp r ta tb)) := by
  rw [zTest_eq]
  exact pt_cmpR ho ha hb hm
theorem pz_val {e : Expr} {t : TE} (h : PE X e t) (he : ∀ whole, isTrue e X.env whole = (do let v ← whole; standAt e.pos; holding [v] (truthy v)) := by intro _; rfl) : PT X e (zTest t) := by
  have e1 : zTest t = tB t := by
    rw [zTest_eq]
    rfl
  rw [e1]
  exact pt_val h he
def zChain (r r' : R2) (ta tb tc : TE) : TE := fun σ H Q => ta σ H fun x H1 => tb σ H1 fun y H2 => r x y H2 fun z H3 => onB z fun k => if k = true then tc σ H3 fun w' H4 => r' y w' H4 Q else Q (.bl false) H3
theorem zChain_eq (r r' : R2) (ta tb tc : TE) : zChain r r' ta tb tc = tChain r r' ta tb tc := by
  funext σ H Q
  unfold zChain tChain
  congr
  funext x H1
  congr
  funext y H2
  congr
  funext z H3
  exact onB_eq
theorem pz_chain {a b c : Expr} {ta tb tc : TE} {pos : Pos} {op op' : CmpOp} {r r' : R2} (ho : OpR X (compareOp op) r) (ho' : OpR X (compareOp op') r') (ha : PE X a ta) (hb : PE X b tb) (hc : PE X c tc)
    (hm : lastMarks [op, op'] [b, c] = false := by with_unfolding_all rfl) : PE X (.Compare a [op, op'] [b, c] pos) (zChain r r' ta tb tc) := by
  rw [zChain_eq]
  exact pe_chain ho ho' ha hb hc hm
theorem pz_chainT {a b c : Expr} {ta tb tc : TE} {pos : Pos} {op op' : CmpOp} {r r' : R2} (ho : OpR X (compareOp op) r) (ho' : OpR X (compareOp op') r') (ha : PE X a ta) (hb : PE X b tb) (hc : PE X c tc)
    (hm : lastMarks [op, op'] [b, c] = false := by with_unfolding_all rfl) : PT X (.Compare a [op, op'] [b, c] pos) (zTest (zChain r r' ta tb tc)) := by
  rw [zTest_eq, zChain_eq]
  exact pt_chain ho ho' ha hb hc hm
def zAndV (ta tb : TE) : TE := fun σ H Q => ta σ H fun x H1 => onB x fun c => if c = true then tb σ H1 Q else Q (.bl false) H1
def zOrV (ta tb : TE) : TE := fun σ H Q => ta σ H fun x H1 => onB x fun c => if c = true then Q (.bl true) H1 else tb σ H1 Q
def zNotV (ta : TE) : TE := fun σ H Q => ta σ H fun x H1 => onB x fun c => Q (.bl (!c)) H1
theorem zAndV_eq (ta tb : TE) : zAndV ta tb = tAndV ta tb := by
  funext σ H Q
  unfold zAndV tAndV
  congr
  funext x H1
  exact onB_eq
theorem zOrV_eq (ta tb : TE) : zOrV ta tb = L2.tOrV ta tb := by
  funext σ H Q
  unfold zOrV L2.tOrV
  congr
  funext x H1
  exact onB_eq
theorem zNotV_eq (ta : TE) : zNotV ta = tNotV ta := by
  funext σ H Q
  unfold zNotV tNotV
  congr
  funext x H1
  exact onB_eq
theorem pz_and {a b : Expr} {rest : List Expr} {ta tb : TE} {pos : Pos} (ha : PE X a ta) (hb : PE X (.BoolOp .And (b :: rest) pos) tb) : PE X (.BoolOp .And (a :: b :: rest) pos) (zAndV ta tb) := by
  rw [zAndV_eq]
  exact pe_and ha hb
theorem pz_or {a b : Expr} {rest : List Expr} {ta tb : TE} {pos : Pos} (ha : PE X a ta) (hb : PE X (.BoolOp .Or (b :: rest) pos) tb) : PE X (.BoolOp .Or (a :: b :: rest) pos) (zOrV ta tb) := by
  rw [zOrV_eq]
  exact pe_or ha hb
theorem pz_not {a : Expr} {ta : TE} {pos : Pos} (ha : PE X a ta) : PE X (.UnaryOp .Not a pos) (zNotV ta) := by
  rw [zNotV_eq]
  exact pe_not ha
/-! operators -/
theorem opImp {f : Value → Value → Sem Value} {r r' : R2} (h : OpR X f r) (i : ∀ x y H Q, r' x y H Q → r x y H Q) : OpR X f r' := fun pins s σ H x y v u Q I rx ry q => h pins s σ H x y v u Q I rx ry (i x y H Q q)
theorem unImp {f : Value → Sem Value} {r r' : V → Hp → VK → Prop} (h : UnR X f r) (i : ∀ x H Q, r' x H Q → r x H Q) : UnR X f r' := fun pins s σ H x v Q I rx q => h pins s σ H x v Q I rx (i x H Q q)
theorem callImp {f : Value} {r r' : List V → Hp → VK → Prop} (h : CallR X f r) (i : ∀ xs H Q, r' xs H Q → r xs H Q) : CallR X f r' := fun pins s σ H xs us Q I rx q => h pins s σ H xs us Q I rx (i xs H Q q)
theorem mtImp {id : String} {r r' : V → List V → Hp → VK → Prop} (h : MtR X id r) (i : ∀ x xs H Q, r' x xs H Q → r x xs H Q) : MtR X id r' := fun pins s σ H x xs v us Q I rx rs q => h pins s σ H x xs v us Q I rx rs (i x xs H Q q)
def rSubZ : R2 := fun x y H Q => onI x fun i => onI y fun j => Q (.int (i - j)) H
theorem op_subZ : OpR X (binaryOp .Sub) rSubZ := opImp op_sub fun x y H Q h => by
  obtain ⟨i, rfl, h⟩ := onI_ex h
  obtain ⟨j, rfl, h⟩ := onI_ex h
  exact ⟨i, j, rfl, rfl, h⟩
def rModZ : R2 := fun x y H Q => onI x fun i => onI y fun j => 0 < j ∧ Q (.int (i % j)) H
theorem op_modZ : OpR X (binaryOp .Mod) rModZ := opImp op_mod fun x y H Q h => by
  obtain ⟨i, rfl, h⟩ := onI_ex h
  obtain ⟨j, rfl, h⟩ := onI_ex h
  exact ⟨i, j, rfl, rfl, h⟩
def rDivZ : R2 := fun x y H Q => onI x fun i => onI y fun j => (0 < j ∧ j.natAbs.log2 < 9000) ∧ Q (.int (i / j)) H
theorem op_divZ : OpR X (binaryOp .FloorDiv) rDivZ := opImp op_fdivW fun x y H Q h => by
  obtain ⟨i, rfl, h⟩ := onI_ex h
  obtain ⟨j, rfl, h⟩ := onI_ex h
  exact ⟨i, j, rfl, rfl, h⟩
def rPowZ : R2 := fun x y H Q => onI x fun i => onI y fun j => (0 ≤ j ∧ j ≤ 1000000 ∧ i.natAbs < 2 ^ 64) ∧ Q (.int (i ^ j.toNat)) H
theorem op_powZ : OpR X (binaryOp .Pow) rPowZ := opImp op_pow fun x y H Q h => by
  obtain ⟨i, rfl, h⟩ := onI_ex h
  obtain ⟨j, rfl, h⟩ := onI_ex h
  exact ⟨i, j, rfl, rfl, h⟩
def rNegZ : V → Hp → VK → Prop := fun x H Q => onI x fun i => Q (.int (-i)) H
theorem un_negZ : UnR X (unaryOp .USub) rNegZ := unImp un_neg fun x H Q h => by
  obtain ⟨i, rfl, h⟩ := onI_ex h
  exact ⟨i, rfl, h⟩
def rAbsZ : List V → Hp → VK → Prop := fun vs H Q => match vs with
  | [.int i] => Q (.int (if i < 0 then -i else i)) H
  | _ => False
theorem call_absZ : CallR X (.builtin "abs") rAbsZ := callImp call_abs fun xs H Q h => by
  unfold rAbsZ at h
  split at h
  · exact ⟨_, rfl, h⟩
  · exact h.elim
def rIntZ : List V → Hp → VK → Prop := fun vs H Q => match vs with
  | [.int i] => Q (.int i) H
  | [.bl k] => Q (.int (if k then 1 else 0)) H
  | _ => False
theorem call_intZ : CallR X (.type "int") rIntZ := callImp call_int1 fun xs H Q h => by
  unfold rIntZ at h
  split at h
  · exact .inl ⟨_, rfl, h⟩
  · exact .inr ⟨_, rfl, h⟩
  · exact h.elim
/-- all(list of truths), any(..) -/
def rAllZ (K : PySem.W.Frag) (f : List Bool → Bool) : List V → Hp → VK → Prop := fun vs H Q => match vs with
  | [.ref a] => ∃ bs : List Bool, SqL K H a (bs.map V.bl) ∧ Q (.bl (f bs)) H
  | _ => False
theorem call_allZ (hc : X.calm = true) : CallR X (.builtin "all") (rAllZ X.K fun bs => bs.all id) := callImp (cr_all hc) fun xs H Q h => by
  unfold rAllZ at h
  split at h
  · obtain ⟨bs, h1, h2⟩ := h
    exact ⟨_, bs, rfl, h1, h2⟩
  · exact h.elim
theorem call_anyZ (hc : X.calm = true) : CallR X (.builtin "any") (rAllZ X.K fun bs => bs.any id) := callImp (cr_any hc) fun xs H Q h => by
  unfold rAllZ at h
  split at h
  · obtain ⟨bs, h1, h2⟩ := h
    exact ⟨_, bs, rfl, h1, h2⟩
  · exact h.elim
/-- an item that an augmented store reads -/
def gIxZ (K : PySem.W.Frag) : V → V → Hp → VK → Prop := fun x y H Q => onR x fun p => onI y fun i => ∃ (xs : List V) (v : V), 0 ≤ i ∧ SqL K H p xs ∧ xs[i.toNat]? = some v ∧ Q v H
theorem pget_Z : PGet X (gIxZ X.K) := by
  intro pins s σ H o i ov iv Q I ro ri h
  obtain ⟨p, rfl, h⟩ := onR_ex h
  obtain ⟨j, rfl, h⟩ := onI_ex h
  obtain ⟨xs, v, h0, h1, h2, h3⟩ := h
  refine pget_list pins s σ H _ _ ov iv Q I ro ri ⟨p, xs, j.toNat, v, rfl, ?_, h1, h2, h3⟩
  rw [Int.toNat_of_nonneg h0]
def rSetZ : TSet := fun o i v H Q => onR o fun p => onI i fun k => ∃ xs, H p = some (.lst xs) ∧ (0 ≤ k ∧ k < xs.length) ∧ Q (upd H p (.lst (xs.set k.toNat v)))
theorem set_Z : PSet X rSetZ := by
  intro pins s σ H o i v ov iv u Q I ro ri rv h
  obtain ⟨p, rfl, h⟩ := onR_ex h
  obtain ⟨k, rfl, h⟩ := onI_ex h
  obtain ⟨xs, h1, h2, h3⟩ := h
  refine set_list pins s σ H _ _ v ov iv u Q I ro ri rv ⟨p, xs, k, k.toNat, rfl, rfl, h1, ?_, h3⟩
  unfold ixN
  rw [if_pos h2.1, if_pos h2.2]
def ipZ : TIp := fun x y H Q => onI x fun i => onI y fun j => Q (.int (i + j)) H
theorem ip_Z : PIp X .Add ipZ := by
  intro pins s σ H x y v u Q I r1 r2 h
  obtain ⟨i, rfl, h⟩ := onI_ex h
  obtain ⟨j, rfl, h⟩ := onI_ex h
  exact ip_add pins s σ H _ _ v u Q I r1 r2 ⟨i, j, rfl, rfl, h⟩
end
end Z
namespace Z
open PySem PySem.Spec PyProof.Rows L2
section
variable {K : PySem.W.Frag} {H : Hp} {p : Addr} {xs : List V} {i : Int} {v : V} {Q : VK}
theorem ixL (h : SqL K H p xs) (e : atI xs i = some v) (q : Q v H) : rIxZ K (.ref p) (.int i) H Q := ⟨xs, i, v, rfl, .inl h, e, q⟩
theorem ixT (h : SqT K H p xs) (e : atI xs i = some v) (q : Q v H) : rIxZ K (.ref p) (.int i) H Q := ⟨xs, i, v, rfl, .inr h, e, q⟩
theorem ixN (h : SqL K H p xs) {j : Nat} (e : xs[j]? = some v) (q : Q v H) : rIxZ K (.ref p) (.int (j : Int)) H Q := ⟨xs, j, v, rfl, .inl h, atI_nat e, q⟩
theorem lenL {n : Int} (h : SqL K H p xs) (e : (xs.length : Int) = n) (q : Q (.int n) H) : rLenZ K [.ref p] H Q := ⟨xs, .inl h, by rw [e]; exact q⟩
end
theorem eqI {K : PySem.W.Frag} {f : Bool → Bool} {i j : Int} {H : Hp} {Q : VK} (q : Q (.bl (f (decide (i = j)))) H) : rEqZ K f (.int i) (.int j) H Q := by
  refine ⟨rfl, ?_⟩
  have e : decide (V.int i = V.int j) = decide (i = j) := by
    rw [Bool.eq_iff_iff]
    simp
  rw [e]
  exact q
theorem eqS {K : PySem.W.Frag} {f : Bool → Bool} {i j : Str} {H : Hp} {Q : VK} (q : Q (.bl (f (decide (i = j)))) H) : rEqZ K f (.str i) (.str j) H Q := by
  refine ⟨rfl, ?_⟩
  have e : decide (V.str i = V.str j) = decide (i = j) := by
    rw [Bool.eq_iff_iff]
    simp
  rw [e]
  exact q
theorem iteD {c A B : Prop} [Decidable c] (h1 : c → A) (h2 : ¬ c → B) : if decide c = true then A else B := by
  by_cases h : c
  · rw [if_pos (decide_eq_true h)]
    exact h1 h
  · rw [if_neg (by rw [decide_eq_true_iff]; exact h)]
    exact h2 h
theorem iteB {c : Bool} {A B : Prop} (h1 : c = true → A) (h2 : c = false → B) : if c = true then A else B := by
  cases c with
  | true => rw [if_pos rfl]; exact h1 rfl
  | false => rw [if_neg Bool.false_ne_true]; exact h2 rfl
end Z

set_option maxRecDepth 100000
set_option maxHeartbeats 2000000
namespace Z
open PySem PySem.Spec PyProof.Rows L2
/-! ### things: data of any depth, dicts by texts within -/
mutual
inductive Th (K : PySem.W.Frag) (H : Hp) : V → PyData → Prop
  | non : Th K H .non .none
  | bl (b : Bool) : Th K H (.bl b) (.bool b)
  | int (i : Int) : Th K H (.int i) (.int i)
  | str (x : Str) : Th K H (.str x) (.str x)
  | lst {a : Addr} {xs : List V} {ds : List PyData} : SqL K H a xs → ThA K H xs ds → Th K H (.ref a) (.list ds)
  | tup {a : Addr} {xs : List V} {ds : List PyData} : SqT K H a xs → ThA K H xs ds → Th K H (.ref a) (.tuple ds)
  | dic {a : Addr} {kvs : List (Key × V)} {ps : List (PyData × PyData)} : H a = some (.dK kvs) → ThD K H kvs ps → Th K H (.ref a) (.dict ps)
inductive ThA (K : PySem.W.Frag) (H : Hp) : List V → List PyData → Prop
  | nil : ThA K H [] []
  | cons {v : V} {vs : List V} {d : PyData} {ds : List PyData} : Th K H v d → ThA K H vs ds → ThA K H (v :: vs) (d :: ds)
inductive ThD (K : PySem.W.Frag) (H : Hp) : List (Key × V) → List (PyData × PyData) → Prop
  | nil : ThD K H [] []
  | cons {k : Str} {v : V} {vs : List (Key × V)} {d : PyData} {ds : List (PyData × PyData)} : Th K H v d → ThD K H vs ds → ThD K H ((Sum.inr k, v) :: vs) ((.str k, d) :: ds)
end
section
variable {K : PySem.W.Frag} {H H' : Hp}
mutual
theorem Th.mono (e : Same H H') : ∀ (d : PyData) (v : V), Th K H v d → Th K H' v d
  | .none, _, .non => .non
  | .bool _, _, .bl b => .bl b
  | .int _, _, .int i => .int i
  | .str _, _, .str x => .str x
  | .list ds, _, .lst h a => .lst (e.seq h) (ThA.mono e ds _ a)
  | .tuple ds, _, .tup h a => .tup (Same.tup e h) (ThA.mono e ds _ a)
  | .dict ps, _, .dic h a => .dic (e _ _ h) (ThD.mono e ps _ a)
theorem ThA.mono (e : Same H H') : ∀ (ds : List PyData) (vs : List V), ThA K H vs ds → ThA K H' vs ds
  | [], _, .nil => .nil
  | d :: ds, _, .cons h a => .cons (Th.mono e d _ h) (ThA.mono e ds _ a)
theorem ThD.mono (e : Same H H') : ∀ (ds : List (PyData × PyData)) (vs : List (Key × V)), ThD K H vs ds → ThD K H' vs ds
  | [], _, .nil => .nil
  | (_, d) :: ds, _, .cons h a => .cons (Th.mono e d _ h) (ThD.mono e ds _ a)
end
mutual
theorem Th.dp : ∀ (d : PyData) (v : V), Th K H v d → d.hasDict = false → Dp K H v d
  | .none, _, .non, _ => .non
  | .bool _, _, .bl b, _ => .bl b
  | .int _, _, .int i, _ => .int i
  | .str _, _, .str x, _ => .str x
  | .list ds, _, .lst h a, n => .lst h (ThA.dp ds _ a (by simpa only [PyData.hasDict] using n))
  | .tuple ds, _, .tup h a, n => .tup h (ThA.dp ds _ a (by simpa only [PyData.hasDict] using n))
  | .dict _, _, .dic _ _, n => by simp [PyData.hasDict] at n
theorem ThA.dp : ∀ (ds : List PyData) (vs : List V), ThA K H vs ds → PyData.hasDictAll ds = false → DpAll K H vs ds
  | [], _, .nil, _ => .nil
  | d :: ds, _, .cons h a, n => by
    have n2 : d.hasDict = false ∧ PyData.hasDictAll ds = false := by simpa only [PyData.hasDictAll, Bool.or_eq_false_iff] using n
    exact .cons (Th.dp d _ h n2.1) (ThA.dp ds _ a n2.2)
end
theorem ThA.len : ∀ {ds : List PyData} {vs : List V}, ThA K H vs ds → vs.length = ds.length
  | _, _, .nil => rfl
  | _, _, .cons _ a => by rw [List.length_cons, List.length_cons, ThA.len a]
theorem ThA.get : ∀ {ds : List PyData} {vs : List V}, ThA K H vs ds → ∀ {i : Nat} {v : V}, vs[i]? = some v → ∃ d, ds[i]? = some d ∧ Th K H v d
  | _, _, .nil, i, v, e => by simp at e
  | _, _, .cons h a, 0, v, e => by
    cases (Option.some.inj e)
    exact ⟨_, rfl, h⟩
  | _, _, .cons h a, i + 1, v, e => ThA.get a (i := i) e
theorem ThA.at_ : ∀ {ds : List PyData} {vs : List V}, ThA K H vs ds → ∀ {i : Nat} {d : PyData}, ds[i]? = some d → ∃ v, vs[i]? = some v ∧ Th K H v d
  | _, _, .nil, i, v, e => by simp at e
  | _, _, .cons h a, 0, v, e => by
    cases (Option.some.inj e)
    exact ⟨_, rfl, h⟩
  | _, _, .cons h a, i + 1, v, e => ThA.at_ a (i := i) e
theorem ThA.app : ∀ {ds es : List PyData} {vs us : List V}, ThA K H vs ds → ThA K H us es → ThA K H (vs ++ us) (ds ++ es)
  | _, _, _, _, .nil, b => b
  | _, _, _, _, .cons h a, b => .cons h (ThA.app a b)
theorem ThA.take : ∀ {ds : List PyData} {vs : List V} (n : Nat), ThA K H vs ds → ThA K H (vs.take n) (ds.take n)
  | _, _, 0, _ => .nil
  | _, _, n + 1, .nil => .nil
  | _, _, n + 1, .cons h a => .cons h (ThA.take n a)
theorem ThA.drop : ∀ {ds : List PyData} {vs : List V} (n : Nat), ThA K H vs ds → ThA K H (vs.drop n) (ds.drop n)
  | _, _, 0, a => a
  | _, _, n + 1, .nil => .nil
  | _, _, n + 1, .cons h a => ThA.drop n a
theorem ThA.set : ∀ {ds : List PyData} {vs : List V} (n : Nat) {v : V} {d : PyData}, ThA K H vs ds → Th K H v d → ThA K H (vs.set n v) (ds.set n d)
  | _, _, _, _, _, .nil, _ => .nil
  | _, _, 0, _, _, .cons h a, t => .cons t a
  | _, _, n + 1, _, _, .cons h a, t => .cons h (ThA.set n a t)
theorem ThA.strs : ∀ (l : List Str), ThA K H (l.map V.str) (l.map PyData.str)
  | [] => .nil
  | x :: l => .cons (.str x) (ThA.strs l)
/-- the name of a thing's class -/
def tyOf : PyData → String
  | .none => "NoneType"
  | .bool _ => "bool"
  | .int _ => "int"
  | .str _ => "str"
  | .list _ => "list"
  | .tuple _ => "tuple"
  | .dict _ => "dict"
theorem ty_list {a : Addr} {xs : List V} (h : SqL K H a xs) : TyX K H (.ref a) (.type "list") := by
  rcases h with (h | ⟨o, h⟩) | ⟨o, its, n, h1, h2, _⟩
  · exact .base (.lst h)
  · exact .base (.frz h)
  · exact .kList h1 h2
theorem ty_tup {a : Addr} {xs : List V} (h : SqT K H a xs) : TyX K H (.ref a) (.type "tuple") := by
  rcases h with (h | ⟨o, h⟩) | ⟨o, its, n, h1, h2, _⟩
  · exact .base (.tup h)
  · exact .fTuple h
  · exact .kTuple h1 h2
theorem Th.ty {v : V} {d : PyData} (h : Th K H v d) : TyX K H v (.type (tyOf d)) := by
  cases h with
  | non => exact .base .non
  | bl b => exact .base (.bl b)
  | int i => exact .base (.int i)
  | str x => exact .base (.str x)
  | lst h _ => exact ty_list h
  | tup h _ => exact ty_tup h
  | dic h _ => exact .base (.dK h)
end
/-- isinstance of a thing and a built-in class -/
def rIsiZ (K : PySem.W.Frag) : List V → Hp → VK → Prop := fun vs H Q => match vs with
  | [x, .ty n] => ∃ d b, Th K H x d ∧ kitB (tyOf d) n = some b ∧ Q (.bl b) H
  | _ => False
section
variable {X : Cx} {pins : List (Addr × Obj)} {σ : L2.St} {H : Hp} {s : Shared}
theorem call_isiZ : CallR X (.builtin "isinstance") (rIsiZ X.K) := callImp call_isi fun xs H Q h => by
  unfold rIsiZ at h
  split at h
  · obtain ⟨d, b, h1, h2, h3⟩ := h
    exact ⟨_, _, _, _, b, rfl, .ty _, h1.ty, kit_ty h2, h3⟩
  · exact h.elim
/-! what stands there reads as the thing -/
theorem kv_len : ∀ {kvs : List (Key × V)} {vs : List (Key × Value)}, KV kvs vs → kvs.map (·.1) = vs.map (·.1)
  | _, _, .nil => rfl
  | _, _, .cons r t => by rw [List.map_cons, List.map_cons, kv_len t, r.1]
mutual
theorem Th.reads (I : Inv X pins σ H s) : ∀ (d : PyData) (v : V) (u : Value), Th X.K H v d → RelV v u → ∃ as, Reads s.heap u d as
  | .none, _, _, .non, r => by
    cases r
    exact ⟨_, Reads.none⟩
  | .bool b, _, _, .bl _, r => by
    cases r
    exact ⟨_, Reads.bool b⟩
  | .int i, _, _, .int _, ⟨t, r⟩ => by
    subst r
    exact ⟨_, Reads.int i t⟩
  | .str x, _, _, .str _, ⟨t, r⟩ => by
    subst r
    exact ⟨_, Reads.str x t⟩
  | .list ds, _, _, .lst hs ha, r => by
    cases r
    obtain ⟨its, rv, ⟨o, n, ho, hc, _, hdt⟩, _⟩ := I.list hs
    obtain ⟨as, q⟩ := ThA.reads I ds _ its ha rv
    exact ⟨_, .list ho hc hdt q⟩
  | .tuple ds, _, _, .tup hs ha, r => by
    cases r
    obtain ⟨its, rv, ⟨o, ho, hc, n, hdt⟩, _⟩ := I.tuple hs
    obtain ⟨as, q⟩ := ThA.reads I ds _ its ha rv
    exact ⟨_, .tuple ho hc hdt q⟩
  | .dict ps, _, _, .dic ha hb, r => by
    cases r
    obtain ⟨_, _, vs, rv, o, es, ep, ho, hx, hdt, _, hp, _⟩ := I.hok _ _ ha
    obtain ⟨as, bs, q1, q2⟩ := ThD.reads I ps _ vs es.toList hb rv hp
    exact ⟨_, .dict ho hx.1 hdt q1 q2⟩
theorem ThA.reads (I : Inv X pins σ H s) : ∀ (ds : List PyData) (vs : List V) (us : List Value), ThA X.K H vs ds → Vals vs us → ∃ as, ReadsAll s.heap us ds as
  | [], _, _, .nil, .nil => ⟨_, .nil⟩
  | d :: ds, _, _, .cons h a, .cons r t => by
    obtain ⟨as, q⟩ := Th.reads I d _ _ h r
    obtain ⟨bs, q'⟩ := ThA.reads I ds _ _ a t
    exact ⟨_, .cons q q'⟩
theorem ThD.reads (I : Inv X pins σ H s) : ∀ (ps : List (PyData × PyData)) (kvs : List (Key × V)) (vs : List (Key × Value)) (es : List DictEntry), ThD X.K H kvs ps → KV kvs vs → Pairs (mixKind X.prog X.w) es vs →
    ∃ as bs, ReadsAll s.heap (es.map (·.key)) (ps.map (·.1)) as ∧ ReadsAll s.heap (es.map (·.val)) (ps.map (·.2)) bs
  | [], _, _, _, .nil, .nil, .nil => ⟨_, _, .nil, .nil⟩
  | (_, d) :: ps, _, _, _, .cons (k := k) h a, .cons r t, .cons (e := e) p1 p2 p => by
    obtain ⟨as, bs, q1, q2⟩ := ThD.reads I ps _ _ _ a t p
    obtain ⟨cs, q⟩ := Th.reads I d _ _ h r.2
    have k1 : keyIs (Sum.inr k) e.key = true := by
      have z := p1
      rw [← r.1] at z
      exact z
    obtain ⟨x, t1, e1, e2⟩ : ∃ x t, k = x ∧ e.key = Value.str x t := by
      rcases keyIs_shape k1 with ⟨i, t, e1, _⟩ | ⟨x, t, e1, e2⟩
      · cases e1
      · exact ⟨x, t, Sum.inr.inj e1, e2⟩
    subst e1
    refine ⟨[] ++ as, cs ++ bs, ?_, ?_⟩
    · rw [List.map_cons, List.map_cons, e2]
      exact .cons (.str _ _) q1
    · rw [List.map_cons, List.map_cons, p2]
      exact .cons q q2
end
/-! repr of a thing -/
theorem ThD.rpK {h : Heap} : ∀ (ps : List (PyData × PyData)) (kvs : List (Key × V)) (vs : List (Key × Value)) (es : List DictEntry), ThD X.K H kvs ps → KV kvs vs → Pairs (mixKind X.prog X.w) es vs →
    PyData.showableAll (ps.map (·.1)) = true → (∀ t ∈ PyData.shownAll (ps.map (·.1)), t.length ≤ sizeLine) →
    ∃ bs, ReadAtMost h (PyData.depthAll (ps.map (·.1))) bs ∧ ReprAllK X.prog X.w bs h (PyData.depthAll (ps.map (·.1))) (es.map (·.key)) (PyData.shownAll (ps.map (·.1)))
  | [], _, _, _, .nil, .nil, .nil, _, _ => by
    refine ⟨[], (fun _ z => nomatch z), ?_⟩
    simp only [List.map_nil, PyData.shownAll]
    exact .nil
  | (_, d) :: ps, _, _, _, .cons (k := k) _ a, .cons r t, .cons (e := e) p1 _ p, w1, w2 => by
    have w1' : PyData.showableAll (ps.map (·.1)) = true := by simpa only [List.map_cons, PyData.showableAll, PyData.showable, Bool.true_and] using w1
    obtain ⟨b2, hb2, k2⟩ := ThD.rpK ps _ _ _ a t p w1' fun x m => w2 x (by simp only [List.map_cons, PyData.shownAll]; exact List.mem_cons_of_mem _ m)
    have w3 := w2 (reprText k) (by simp only [List.map_cons, PyData.shownAll, PyData.shown]; exact List.mem_cons_self)
    have k1 : keyIs (Sum.inr k) e.key = true := by
      have z := p1
      rw [← r.1] at z
      exact z
    obtain ⟨x, t1, e1, e2⟩ : ∃ x t, k = x ∧ e.key = Value.str x t := by
      rcases keyIs_shape k1 with ⟨i, t, e1, _⟩ | ⟨x, t, e1, e2⟩
      · cases e1
      · exact ⟨x, t, Sum.inr.inj e1, e2⟩
    subst e1
    refine ⟨b2, ?_, ?_⟩
    · simp only [List.map_cons, PyData.depthAll]
      exact .mono hb2 (Nat.le_max_right _ _)
    · simp only [List.map_cons, PyData.depthAll, PyData.shownAll, PyData.shown]
      rw [e2]
      exact .cons (ReprK.of_is (ReprIs.str _ _ w3) _ _ _) (k2.more_le (fun b m => m) (Nat.le_max_right _ _))
mutual
theorem Th.rp (I : Inv X pins σ H s) : ∀ (d : PyData) (v : V) (u : Value), Th X.K H v d → RelV v u → d.showable = true → d.shown.length ≤ sizeLine →
    ∃ bs, ReadAtMost s.heap d.depth bs ∧ ReprK X.prog X.w bs s.heap d.depth u d.shown
  | .none, _, _, .non, r, _, _ => by
    cases r
    refine ⟨[], (fun _ z => nomatch z), ?_⟩
    simp only [PyData.shown]
    exact ReprK.of_is ReprIs.none _ _ _
  | .bool b, _, _, .bl _, r, _, _ => by
    cases r
    refine ⟨[], (fun _ z => nomatch z), ?_⟩
    simp only [PyData.shown]
    exact ReprK.of_is (ReprIs.bool b) _ _ _
  | .int i, _, _, .int _, ⟨t, r⟩, w1, _ => by
    subst r
    refine ⟨[], (fun _ z => nomatch z), ?_⟩
    simp only [PyData.shown]
    exact ReprK.of_is (ReprIs.int t (by simpa [PyData.showable] using w1)) _ _ _
  | .str x, _, _, .str _, ⟨t, r⟩, _, w2 => by
    subst r
    refine ⟨[], (fun _ z => nomatch z), ?_⟩
    simp only [PyData.shown] at w2 ⊢
    exact ReprK.of_is (ReprIs.str x t w2) _ _ _
  | .list ds, _, _, .lst hs ha, r, w1, w2 => by
    have self := Th.reads I _ _ _ (.lst hs ha) r
    cases r
    obtain ⟨rs, self⟩ := self
    obtain ⟨its, rv, ⟨o, n, ho, hc, _, hdt⟩, _⟩ := I.list hs
    simp only [PyData.shown] at w2
    obtain ⟨bs, hb, hk⟩ := ThA.rp I ds _ its ha rv (by simpa only [PyData.showable] using w1) fun t ht => Nat.le_trans (listText_mem_le ht) w2
    have out := not_mem_of_deeper self (by simp only [PyData.depth]; omega) hb
    refine ⟨_ :: bs, .cons self (by simp only [PyData.depth]; omega) hb, ?_⟩
    simp only [PyData.depth, PyData.shown]
    cases its with
    | nil =>
      cases rv
      cases ha
      simp only [PyData.shownAll, listText_nil]
      exact .listEmpty ho hc hdt
    | cons y l => exact .list ho hc hdt out (by simpa using hk.length_eq) fun i y e => hk.item i y (by simpa using e)
  | .tuple ds, _, _, .tup hs ha, r, w1, w2 => by
    have self := Th.reads I _ _ _ (.tup hs ha) r
    cases r
    obtain ⟨rs, self⟩ := self
    obtain ⟨its, rv, ⟨o, ho, hc, n, hdt⟩, _⟩ := I.tuple hs
    simp only [PyData.shown] at w2
    obtain ⟨bs, hb, hk⟩ := ThA.rp I ds _ its ha rv (by simpa only [PyData.showable] using w1) fun t ht => Nat.le_trans (tupleText_mem_le ht) w2
    have out := not_mem_of_deeper self (by simp only [PyData.depth]; omega) hb
    refine ⟨_ :: bs, .cons self (by simp only [PyData.depth]; omega) hb, ?_⟩
    simp only [PyData.depth, PyData.shown]
    exact .tuple ho hc hdt out hk
  | .dict ps, _, _, .dic ha hb, r, w1, w2 => by
    have self := Th.reads I _ _ _ (.dic ha hb) r
    cases r
    obtain ⟨rs, self⟩ := self
    obtain ⟨_, sy, vs, rv, o, es, ep, ho, hx, hdt, _, hp, _⟩ := I.hok _ _ ha
    simp only [PyData.shown] at w2
    obtain ⟨z1, z2⟩ := PyData.showableKv_split ps (by simpa only [PyData.showable] using w1)
    obtain ⟨b1, hb1, k1⟩ := ThD.rpK ps _ vs es.toList hb rv hp z1 fun t ht => let ⟨p, m, l⟩ := PyData.shownKv_key_le ps t ht; Nat.le_trans l (Nat.le_trans (dictText_mem_le m) w2)
    obtain ⟨b2, hb2, k2⟩ := ThD.rp I ps _ vs es.toList hb rv hp z2 fun t ht => let ⟨p, m, l⟩ := PyData.shownKv_val_le ps t ht; Nat.le_trans l (Nat.le_trans (dictText_mem_le m) w2)
    have both : ReadAtMost s.heap (PyData.depthKv ps) (b1 ++ b2) := .append (.mono hb1 (PyData.depthAll_keys_le ps)) (.mono hb2 (PyData.depthAll_vals_le ps))
    have out := not_mem_of_deeper self (by simp only [PyData.depth]; omega) both
    refine ⟨_ :: (b1 ++ b2), .cons self (by simp only [PyData.depth]; omega) both, ?_⟩
    simp only [PyData.depth, PyData.shown, PyData.shownKv_eq]
    exact .dict ho hx.1 hdt sy out (.of_two es.toList _ _ (k1.more_le (fun b m => List.mem_append_left _ m) (PyData.depthAll_keys_le ps)) (k2.more_le (fun b m => List.mem_append_right _ m) (PyData.depthAll_vals_le ps)))
theorem ThA.rp (I : Inv X pins σ H s) : ∀ (ds : List PyData) (vs : List V) (us : List Value), ThA X.K H vs ds → Vals vs us → PyData.showableAll ds = true → (∀ t ∈ PyData.shownAll ds, t.length ≤ sizeLine) →
    ∃ bs, ReadAtMost s.heap (PyData.depthAll ds) bs ∧ ReprAllK X.prog X.w bs s.heap (PyData.depthAll ds) us (PyData.shownAll ds)
  | [], _, _, .nil, .nil, _, _ => by
    refine ⟨[], (fun _ z => nomatch z), ?_⟩
    simp only [PyData.shownAll]
    exact .nil
  | d :: ds, _, _, .cons h a, .cons r t, w1, w2 => by
    have w1' : d.showable = true ∧ PyData.showableAll ds = true := by simpa only [PyData.showableAll, Bool.and_eq_true] using w1
    obtain ⟨b1, hb1, k1⟩ := Th.rp I d _ _ h r w1'.1 (w2 _ (by simp only [PyData.shownAll]; exact List.mem_cons_self))
    obtain ⟨b2, hb2, k2⟩ := ThA.rp I ds _ _ a t w1'.2 fun x m => w2 x (by simp only [PyData.shownAll]; exact List.mem_cons_of_mem _ m)
    refine ⟨b1 ++ b2, ?_, ?_⟩
    · simp only [PyData.depthAll]
      exact .append (.mono hb1 (Nat.le_max_left _ _)) (.mono hb2 (Nat.le_max_right _ _))
    · simp only [PyData.depthAll, PyData.shownAll]
      exact .cons ((k1.more fun b m => List.mem_append_left _ m).level_le (Nat.le_max_left _ _)) (k2.more_le (fun b m => List.mem_append_right _ m) (Nat.le_max_right _ _))
theorem ThD.rp (I : Inv X pins σ H s) : ∀ (ps : List (PyData × PyData)) (kvs : List (Key × V)) (vs : List (Key × Value)) (es : List DictEntry), ThD X.K H kvs ps → KV kvs vs → Pairs (mixKind X.prog X.w) es vs →
    PyData.showableAll (ps.map (·.2)) = true → (∀ t ∈ PyData.shownAll (ps.map (·.2)), t.length ≤ sizeLine) →
    ∃ bs, ReadAtMost s.heap (PyData.depthAll (ps.map (·.2))) bs ∧ ReprAllK X.prog X.w bs s.heap (PyData.depthAll (ps.map (·.2))) (es.map (·.val)) (PyData.shownAll (ps.map (·.2)))
  | [], _, _, _, .nil, .nil, .nil, _, _ => by
    refine ⟨[], (fun _ z => nomatch z), ?_⟩
    simp only [List.map_nil, PyData.shownAll]
    exact .nil
  | (_, d) :: ps, _, _, _, .cons (k := k) h a, .cons r t, .cons (e := e) p1 p2 p, w1, w2 => by
    have w1' : d.showable = true ∧ PyData.showableAll (ps.map (·.2)) = true := by simpa only [List.map_cons, PyData.showableAll, Bool.and_eq_true] using w1
    obtain ⟨b1, hb1, k1⟩ := Th.rp I d _ _ h r.2 w1'.1 (w2 _ (by simp only [List.map_cons, PyData.shownAll]; exact List.mem_cons_self))
    obtain ⟨b2, hb2, k2⟩ := ThD.rp I ps _ _ _ a t p w1'.2 fun x m => w2 x (by simp only [List.map_cons, PyData.shownAll]; exact List.mem_cons_of_mem _ m)
    refine ⟨b1 ++ b2, ?_, ?_⟩
    · simp only [List.map_cons, PyData.depthAll]
      exact .append (.mono hb1 (Nat.le_max_left _ _)) (.mono hb2 (Nat.le_max_right _ _))
    · simp only [List.map_cons, PyData.depthAll, PyData.shownAll]
      rw [p2]
      exact .cons ((k1.more fun b m => List.mem_append_left _ m).level_le (Nat.le_max_left _ _)) (k2.more_le (fun b m => List.mem_append_right _ m) (Nat.le_max_right _ _))
end
theorem repr_top (I : Inv X pins σ H s) {d : PyData} {v : V} {u : Value} {Q : Value → Shared → Prop} {E : Value → Shared → Prop} (h : Th X.K H v d) (r : RelV v u) (w1 : d.showable = true) (w2 : d.shown.length ≤ sizeLine)
    (hg : X.A.guards = some []) (hu : X.A.units + (d.depth + 1) < cLine)
    (q : ∀ h' t tk, (∀ b o, s.heap.get? b = some o → h'.get? b = some o) → Q (.str d.shown t) { s with heap := h', toks := tk }) : wpAny (model X.prog X.w) X.A (call (.builtin "repr") [u]) Q E s := by
  cases h with
  | non =>
    cases r
    exact PySem.P.repr_of_none (by have z := q s.heap s.toks (s.toks + 1) (fun _ _ e => e); simpa only [PyData.shown] using z)
  | bl b =>
    cases r
    exact PySem.P.repr_of_bool (by have z := q s.heap s.toks (s.toks + 1) (fun _ _ e => e); simpa only [PyData.shown] using z)
  | int i =>
    obtain ⟨t, rfl⟩ := r
    exact PySem.P.repr_of_int (by simpa [PyData.showable] using w1) (by have z := q s.heap s.toks (s.toks + 1) (fun _ _ e => e); simpa only [PyData.shown] using z)
  | str x =>
    obtain ⟨t, rfl⟩ := r
    exact PySem.P.repr_of_str (by have z := q s.heap s.toks (s.toks + 1) (fun _ _ e => e); simpa only [PyData.shown] using z) (by simpa only [PyData.shown] using w2)
  | @lst a xs ds hs ha =>
    obtain ⟨rs, self⟩ := Th.reads I _ _ _ (.lst hs ha) r
    cases r
    obtain ⟨its, rv, ⟨o, n, ho, hc, _, hdt⟩, _⟩ := I.list hs
    simp only [PyData.shown] at w2 q
    obtain ⟨bs, hb, hk⟩ := ThA.rp I ds _ its ha rv (by simpa only [PyData.showable] using w1) fun t ht => Nat.le_trans (listText_mem_le ht) w2
    have out := not_mem_of_deeper self (by simp only [PyData.depth]; omega) hb
    simp only [PyData.depth] at hu
    have go : wpAny (model X.prog X.w) X.A.in1 (call (.builtin "list.__repr__") [.ref a]) (fun z s' => ∃ y t, z = .str y t ∧ Q z s') E s := by
      cases its with
      | nil =>
        cases rv
        cases ha
        simp only [PyData.shownAll, listText_nil] at q
        exact call_list_repr_empty ⟨o, ho, hc⟩ ho hdt ⟨_, _, rfl, q s.heap _ _ fun _ _ e => e⟩
      | cons y l =>
        exact call_list_reprK ho hc hdt out (by simpa using hk.length_eq) (fun i y e => hk.item i y (by simpa using e)) hg (fun b _ => Clear.nil b) (by show X.A.units + 1 + (PyData.depthAll ds + 1) < cLine; omega) (fun _ _ e => e)
          (fun h' t tk k => ⟨_, _, rfl, q h' t tk k⟩) w2
    exact call_repr_slot (by omega) ⟨o, ho, hc⟩ F.slot_list_repr.toG go
  | @tup a xs ds hs ha =>
    obtain ⟨rs, self⟩ := Th.reads I _ _ _ (.tup hs ha) r
    cases r
    obtain ⟨its, rv, ⟨o, ho, hc, n, hdt⟩, _⟩ := I.tuple hs
    simp only [PyData.shown] at w2 q
    obtain ⟨bs, hb, hk⟩ := ThA.rp I ds _ its ha rv (by simpa only [PyData.showable] using w1) fun t ht => Nat.le_trans (tupleText_mem_le ht) w2
    have out := not_mem_of_deeper self (by simp only [PyData.depth]; omega) hb
    simp only [PyData.depth] at hu
    exact call_repr_slot (by omega) ⟨o, ho, hc⟩ F.slot_tuple_repr
      (call_tuple_reprK ho hc hdt out hk hg (fun b _ => Clear.nil b) (by show X.A.units + 1 + (PyData.depthAll ds + 1) < cLine; omega) (fun _ _ e => e) (fun h' t tk k => ⟨_, _, rfl, q h' t tk k⟩) w2)
  | @dic a kvs ps ha hb =>
    obtain ⟨rs, self⟩ := Th.reads I _ _ _ (.dic ha hb) r
    cases r
    obtain ⟨_, sy, vs, rv, o, es, ep, ho, hx, hdt, _, hp, _⟩ := I.hok _ _ ha
    simp only [PyData.shown] at w2 q
    obtain ⟨z1, z2⟩ := PyData.showableKv_split ps (by simpa only [PyData.showable] using w1)
    obtain ⟨b1, hb1, k1⟩ := ThD.rpK (h := s.heap) ps _ vs es.toList hb rv hp z1 fun t ht => let ⟨p, m, l⟩ := PyData.shownKv_key_le ps t ht; Nat.le_trans l (Nat.le_trans (dictText_mem_le m) w2)
    obtain ⟨b2, hb2, k2⟩ := ThD.rp I ps _ vs es.toList hb rv hp z2 fun t ht => let ⟨p, m, l⟩ := PyData.shownKv_val_le ps t ht; Nat.le_trans l (Nat.le_trans (dictText_mem_le m) w2)
    have both : ReadAtMost s.heap (PyData.depthKv ps) (b1 ++ b2) := .append (.mono hb1 (PyData.depthAll_keys_le ps)) (.mono hb2 (PyData.depthAll_vals_le ps))
    have out := not_mem_of_deeper self (by simp only [PyData.depth]; omega) both
    simp only [PyData.depth] at hu
    simp only [PyData.shownKv_eq] at q
    exact call_repr_slot (by omega) ⟨o, ho, hx.1⟩ F.slot_dict_repr
      (call_dict_reprK ho hx.1 hdt sy out (.of_two es.toList _ _ (k1.more_le (fun b m => List.mem_append_left _ m) (PyData.depthAll_keys_le ps)) (k2.more_le (fun b m => List.mem_append_right _ m) (PyData.depthAll_vals_le ps)))
        hg (fun b _ => Clear.nil b) (by show X.A.units + 1 + (PyData.depthKv ps + 1) < cLine; omega) (fun _ _ e => e) (fun h' t tk k => ⟨_, _, rfl, q h' t tk k⟩) (by rw [← PyData.shownKv_eq]; exact w2))
/-- repr(a thing) -/
def rReprZ (K : PySem.W.Frag) : List V → Hp → VK → Prop := fun vs H Q => match vs with
  | [x] => ∃ d, Th K H x d ∧ d.showable = true ∧ d.shown.length ≤ sizeLine ∧ d.depth ≤ 60 ∧ Q (.str d.shown) H
  | _ => False
theorem call_reprZ (hu : X.A.units + 64 < cLine) (hg : X.A.guards = some []) : CallR X (.builtin "repr") (rReprZ X.K) := by
  intro pins s σ H xs us Q I r h
  unfold rReprZ at h
  split at h
  · obtain ⟨d, h1, h2, h3, h4, h5⟩ := h
    obtain ⟨u, rfl, rx⟩ := vals1 r
    refine repr_top I h1 rx h2 h3 hg (by omega) fun h' t tk k => ?_
    exact ⟨.str d.shown, H, I.kept k, ⟨t, rfl⟩, h5⟩
  · exact h.elim
end
end Z

set_option maxRecDepth 100000
set_option maxHeartbeats 2000000
namespace Z
open PySem PySem.Spec PyProof.Rows L2
/-! ### defs that are called while no repr is under way -/
structure FnG (P : Program) (w : World) (K : PySem.W.Frag) (mg : Str → Option Value) (base : Heap) (CX : CXT) (k : Nat) (f : Addr) (fd : FuncData) (ps : List Str) (sp : Sp) : Prop where
  len : ∀ vs H Q E, sp vs H Q E → vs.length = ps.length
  run : ∀ (A : Around) (out : List Env) (s : Shared) (H : Hp) (args : Args) (us : List Value) (vs : List V) (Q : VK) (E : XK), Room k A → A.guards = some [] → Env0 P w K mg base A out s H →
    BindsTo s fd args (ps.zip us) → Vals vs us → sp vs H Q E → codeAny (model P w) A (.call (.ref f) args) (CR CX out P w H s Q E) s
/-- such a def by its body -/
theorem FnG.of {CX : CXT} {P : Program} {w : World} {K : PySem.W.Frag} {mg : Str → Option Value} {base : Heap} {k : Nat} {f : Addr} {fd : FuncData} {name qual : Str} {params : Arguments} {body : List Stmt} {scope : Scope} {dvs : List V} {kws : List (Str × V)}
    {N ps : List Str} {sp : Sp} (F : FunD K name qual params body scope dvs kws f fd) (S : FnScope N ps scope) (len : ∀ vs H Q E, sp vs H Q E → vs.length = ps.length)
    (hb : ∀ (cdv : Value) (A : Around) (out : List Env) (s : Shared) (H : Hp) (vs : List V) (Q : VK) (E : XK), Room k (A.deeper (envOfC qual scope s.heap.objs.size f cdv)) → A.guards = some [] → sp vs H Q E →
      ∃ t, PSs (cxOf CX P w K mg base N qual scope f cdv A out s H E) body t ∧ t { nx := fun _ H' => Q .non H', rt := Q } (start N vs) H) : FnG P w K mg base CX (k + 1) f fd ps sp := by
  obtain ⟨oc, od, dV, kV, doc, pm, an, cdv, ct, osl, rfl, lk, hcd, _, _⟩ := F.ex
  constructor
  · exact len
  · intro A out s H args us vs Q E room gd e0 bi rv w1
    have hlen := len vs H Q E w1
    have kin : K.In s.heap := e0.mod.kin.keeps fun b o e => (e0.bs b o e).1
    have free : s.heap.NoLimit := e0.mod.nolimit.keeps fun b o e => (e0.bs b o e).1
    refine codeAny_call_function room.depth (kin _ _ lk) rfl S.co S.gen rfl (PySem.W.codeRec_of kin hcd) (bi _ _ _ _ ?_)
    refine wpAny_newFunctionEnv_cells S.kind ?_ ?_
    · rintro ⟨n, v⟩ hy
      have hn : n ∈ ps := (List.of_mem_zip hy).1
      rcases S.par n hn with z | z
      · exact Or.inl z
      · exact Or.inr ⟨z, PySem.W.cellsFrom_some _ _ _ (Or.inl z)⟩
    · intro env he s1 x
      subst he
      refine ⟨free.keeps x.toInCall.keep, codeAny_func ?_⟩
      obtain ⟨t, d, w2⟩ := hb cdv A out s H vs Q E (room.deeper _) gd w1
      refine wpAny_mono (d.run [] s1 (start N vs) H _ (inv_start S room.hd e0 hlen rv x) w2) ?_ (fun _ _ z => z)
      intro fl s' z
      cases fl with
      | ret u =>
        obtain ⟨v, σ', H', J, r, q⟩ := z
        exact ⟨v, H', J.os, J.bare, J.base, J.hok, r, q⟩
      | next =>
        obtain ⟨σ', H', J, q⟩ := z
        exact ⟨V.non, H', J.os, J.bare, J.base, J.hok, (show RelV V.non Value.none from rfl), q⟩
      | brk =>
        obtain ⟨_, _, _, q⟩ := z
        exact q.elim
      | cont =>
        obtain ⟨_, _, _, q⟩ := z
        exact q.elim
/-- by its name -/
structure Cg (P : Program) (w : World) (K : PySem.W.Frag) (mg : Str → Option Value) (base : Heap) (CX : CXT) (k : Nat) (x : Str) (sp : Sp) : Prop where
  ex : ∃ (f : Addr) (fd : FuncData) (ps : List Str), FnG P w K mg base CX k f fd ps sp ∧ mg x = some (.ref f) ∧ PySem.W.keepIn K (.ref f) = true ∧ Binds K fd ps []
section
variable {X : Cx} {k j : Nat} {x : Str} {sp : Sp} {CX : CXT} {E : XK} {p pos : Pos} {e : Expr} {es : List Expr} {t : TA}
theorem pe_cg (c : Cg X.prog X.w X.K X.mg X.base CX k x sp) (hr : Room j X.A) (gd : X.A.guards = some []) (hk : k ≤ j) (hg : Gl X x) (hx : Passes CX X E) (ha : PA X (e :: es) t)
    (hdb : (x == ("__debug__" : Str)) = false := by decide) (he : starEach (e :: es) X.env = (false, eval e X.env) :: starEach es X.env := by rfl) (hpl : (backTo pos (starEach es X.env)).any (·.1) = false := by rfl) :
    PE X (.Call (.Name x p) (e :: es) [] pos) (tCall sp [] E t) := by
  obtain ⟨f, fd, ps, F, hm, kp, b⟩ := c.ex
  constructor
  intro pins s σ H Q I w1
  refine wpAny_Call_Name_kw (ld_glob I hg hm ?_ hdb)
  refine PySem.W.callWith_K (h₀ := X.base) I.ok.mod.kin kp (thn (ha.run pos pins s σ H _ I w1) ?_) he hpl
  rintro us s1 ⟨vs, H1, I1, r, w2⟩
  refine ⟨I1.kIn, ?_⟩
  rw [List.append_nil] at w2
  have hl : (us ++ []).length = ps.length := by
    rw [List.append_nil, ← r.length]
    exact F.len _ _ _ _ w2
  have bi := b s1 us I1.kIn hl
  rw [List.append_nil] at bi
  refine wpAny_call (codeAny_mono (F.run X.A X.stack s1 H1 ⟨us, []⟩ us vs Q E (hr.mono hk) gd I1.env0 bi r w2) ?_)
  intro r s' q
  cases r with
  | error z => exact hx pins σ H1 s1 z s' I1 q
  | ok fl =>
    cases fl with
    | ret u => exact I1.after q
    | next => exact q.elim
    | brk => exact q.elim
    | cont => exact q.elim
end
/-! ### the end of a law -/
section
variable {P : Program} {w : World} {K : PySem.W.Frag} {mg mb : Str → Option Value} {CX : CXT} {k : Nat} {fa a : Addr} {fd : FuncData} {x : Str} {sp : Sp} {s : Shared} {vs : List Value} {ns : List Int}
/-- what the law's call wants behind it -/
abbrev Ended (s : Shared) (r : Result) (s' : Shared) : Prop := r = .ok (.ret (.bool true)) ∧ OldK s.heap s'.heap ∧ s'.os = s.os ∧ AllBare s'.gens
theorem law_from (H : Hp) (hO : Only H) (hok : HOk P w H s.heap) (own : ∀ b, H b ≠ none → b = a) (kin : K.In (hidT s.heap H)) (hM : Mod K mg (hidT s.heap H)) (hg : s.gens = #[]) (hr : Room k callerA)
    (F : FnG P w K mg (hidT s.heap H) CX k fa fd [x] sp) (bi : BindsTo s fd ⟨[Value.ref a], []⟩ [(x, Value.ref a)]) (w1 : sp [.ref a] H (fun v _ => v = .bl true) fun _ _ _ => False)
    (hCX : ∀ e s', CX [] H s (fun _ _ _ => False) e s' → False) : codeAny (model P w) callerA (.call (.ref fa) ⟨[.ref a], []⟩) (Ended s) s := by
  have e0 : Env0 P w K mg (hidT s.heap H) callerA [] s H :=
    { frames := rfl, mod := hM, bs := fun b o e => of_hidT e, bsz := Nat.le_of_eq (hidT_size _ _), funs := trivial, frf := fun b z => (nomatch (show b ∈ ([] : List Addr) from z)), hok := hok, bare := .of_eq hg }
  refine codeAny_mono (F.run callerA [] s H _ [.ref a] [.ref a] _ _ hr rfl e0 bi (.cons rfl .nil) w1) ?_
  intro r s' q
  cases r with
  | error e => exact (hCX e s' q).elim
  | ok fl =>
    cases fl with
    | next => exact q.elim
    | brk => exact q.elim
    | cont => exact q.elim
    | ret u =>
      obtain ⟨v, H', h1, h2, h3, h4, h5, h6⟩ := q
      have h6' : v = .bl true := h6
      subst h6'
      cases (show u = Value.bool true from h5)
      refine ⟨rfl, OldK.of_keep ?_, h1, h2⟩
      intro b o e
      cases z : H b with
      | none => exact h3.keep b o e z (fun m => nomatch (show b ∈ ([] : List Addr) from m)) (fun m => nomatch m)
      | some u =>
        rcases hO b with y | ⟨ob, xs, y⟩
        · rw [z] at y
          cases y
        · have l1 := (hok b _ y).1
          have l2 := (h4 b _ (h3.frzs b ob _ y)).1
          rw [e] at l1
          cases l1
          exact l2
theorem law_end (KX : K.In s.heap) (hns : s.heap.Ns mainGlobals mg) (hb : s.heap.Ns builtinsNs mb) (hbb : ∀ x : Str, x ≠ "__name__" → mb x = bootBuiltins x) (hlim : s.heap.NoLimit) (hg : s.gens = #[])
    (ha : s.heap.get? a = some { cls := .type "list", data := .seq vs.toArray }) (hi : IntsAre vs ns) (hl : ns.length ≤ sizeLine) (hr : Room k callerA)
    (F : ∀ base : Heap, K.In base → base.Ns mainGlobals mg → FnG P w K mg base CX k fa fd [x] sp) (bi : ∀ (s : Shared) (u : Value), BindsTo s fd ⟨[u], []⟩ [(x, u)])
    (w1 : ∀ H : Hp, Only H → SqL K H a (ns.map V.int) → sp [.ref a] H (fun v _ => v = .bl true) fun _ _ _ => False)
    (hCX : ∀ H e s', CX [] H s (fun _ _ _ => False) e s' → False) : codeAny (model P w) callerA (.call (.ref fa) ⟨[.ref a], []⟩) (Ended s) s := by
  have rv := vals_ints hi
  have lv := hi.length
  have core : ∀ H : Hp, Only H → SqL K H a (ns.map V.int) → HOk P w H s.heap → (∀ b, H b ≠ none → b = a) → (H a ≠ none → K.lookup a = none) → codeAny (model P w) callerA (.call (.ref fa) ⟨[.ref a], []⟩) (Ended s) s := by
    intro H hO hS hok own away
    have up : ∀ {b : Addr} {o : Obj}, s.heap.get? b = some o → H b = none → (hidT s.heap H).get? b = some o := fun e n => hidT_get e n
    have notA : ∀ {b : Addr}, H b ≠ none → ∀ {o : Obj}, s.heap.get? b = some o → o.data = .seq vs.toArray := by
      intro b n o e
      have z := own b n
      subst z
      rw [ha] at e
      cases e
      rfl
    have nsUp : ∀ {b : Addr} {m : Str → Option Value}, s.heap.Ns b m → (hidT s.heap H).Ns b m := by
      rintro b m ⟨o, es, ep, e, d, r⟩
      refine ⟨o, es, ep, up e ?_, d, r⟩
      cases q : H b with
      | none => rfl
      | some u =>
        have z := notA (b := b) (by rw [q]; exact Option.some_ne_none u) e
        rw [d] at z
        cases z
    have kUp : K.In (hidT s.heap H) := by
      intro b o e
      refine up (KX b o e) ?_
      cases q : H b with
      | none => rfl
      | some u =>
        have z := own b (by rw [q]; exact Option.some_ne_none u)
        subst z
        rw [away (by rw [q]; exact Option.some_ne_none u)] at e
        cases e
    obtain ⟨mc, l1, l2⟩ := hlim
    exact law_from H hO hok own kUp ⟨kUp, nsUp hns, ⟨mb, nsUp hb, hbb⟩, mc, nsUp l1, l2⟩ hg hr (F _ kUp (nsUp hns)) (bi s (.ref a)) (w1 H hO hS) (hCX H)
  cases hk : K.lookup a with
  | some o =>
    have e := KX a o hk
    rw [ha] at e
    cases e
    refine core (fun _ => none) (fun _ => Or.inl rfl) ?_ ?_ (fun b z => absurd rfl z) (fun z => absurd rfl z)
    · exact Or.inr ⟨_, vs.toArray, _, hk, rfl, rfl, rfl, (by rw [List.size_toArray, lv]; exact hl), (by simpa using rv)⟩
    · intro b u z
      cases (show (none : Option HO) = some u from z)
  | none =>
    let o : Obj := { cls := .type "list", data := .seq vs.toArray }
    let H : Hp := fun b => if b = a then some (.frz o (.lst (ns.map V.int))) else none
    have at_a : H a = some (.frz o (.lst (ns.map V.int))) := if_pos rfl
    have off : ∀ b, b ≠ a → H b = none := fun b n => if_neg n
    refine core H ?_ (Or.inl (Or.inr ⟨o, at_a⟩)) ?_ ?_ (fun _ => hk)
    · intro b
      by_cases z : b = a
      · exact Or.inr ⟨o, ns.map V.int, by rw [z]; exact at_a⟩
      · exact Or.inl (off b z)
    · intro b u z
      by_cases y : b = a
      · rw [y, at_a] at z
        cases z
        rw [y]
        exact ⟨ha, by rw [List.length_map]; exact hl, vs, _, rv, ha⟩
      · rw [off b y] at z
        cases z
    · intro b z
      by_cases y : b = a
      · exact y
      · exact absurd (off b y) z
end
/-- the walk of a law's row, from its def's promise -/
theorem law_walk {l : PySem.W.OpenLaw} {n k : Nat} {q : Program} {loose : List Str} {XP : (Str → Option Value) → Heap → Prop} {YP : World → Heap → Prop} {d : DefRec} {CX : CXT} {x : Str}
    (hn : l.most = some n) (hn2 : n ≤ sizeLine) (hdf : d.params.defaults = []) (hr : Room k callerA)
    (F : ∀ (w : World) (mg : Str → Option Value) (fa : Addr) (h : Heap), YP w h → h.Ns mainGlobals mg → mg d.name = some (.ref fa) →
      ∃ (K : PySem.W.Frag) (fd : FuncData) (sp : Sp), K.In h ∧ (∀ (s : Shared) (u : Value), BindsTo s fd ⟨[u], []⟩ [(x, u)]) ∧
        (∀ (H : Hp) (a : Addr) (ns : List Int), ns.length ≤ n → SqL K H a (ns.map V.int) → sp [.ref a] H (fun v _ => v = .bl true) fun _ _ _ => False) ∧
        ∀ base : Heap, K.In base → base.Ns mainGlobals mg → FnG l.prog w K mg base CX k fa fd [x] sp)
    (hCX : ∀ (H : Hp) (s : Shared) (e : Value) (s' : Shared), CX [] H s (fun _ _ _ => False) e s' → False) : PySem.W.WalkO q loose XP YP l.row.toRowW d [] (fun f vs => PySem.call f vs) := by
  refine Att.attach_call hn hdf ?_
  intro w s0 s mg mb fa o pm cd doc a vs ns G Y ho hd hcd hmg hobj hints hlen hg
  obtain ⟨K, fd, sp, KX, bi, w1, hF⟩ := F w mg fa _ Y G.T.g hmg
  exact law_end KX G.T.g G.T.b G.T.builtins G.T.nolimit hg hobj hints (Nat.le_trans hlen hn2) hr hF bi (fun H _ hS => w1 H a ns hlen hS) fun H e s' => hCX H s e s'
end Z

set_option maxRecDepth 100000
set_option maxHeartbeats 2000000
namespace Z
open PySem PySem.Spec PyProof.Rows L2
/-! ### what is walked, as a list of its items -/
def signsV (z : Str) : List V := z.cps.toList.map fun c => V.str ⟨#[c]⟩
def rangeV (lo : Int) (n : Nat) : List V := (List.range n).map fun i : Nat => V.int (lo + (i : Int))
theorem rangeV_len (lo : Int) (n : Nat) : (rangeV lo n).length = n := by simp [rangeV]
theorem signsV_len (z : Str) : (signsV z).length = z.length := by simp [signsV, Str.length]
theorem rangeV_get {lo : Int} {n i : Nat} {x : V} (h : (rangeV lo n)[i]? = some x) : i < n ∧ x = .int (lo + (i : Int)) := by
  obtain ⟨h1, h2⟩ := List.getElem?_eq_some_iff.mp h
  rw [rangeV_len] at h1
  refine ⟨h1, ?_⟩
  rw [← h2]
  simp [rangeV]
theorem walk_strV {z : Str} : Walk (Its z) (signsV z).length (fun _ => True) (YAt (signsV z)) := by
  rw [signsV_len]
  refine (walk_str (z := z)).mono (fun _ h => h) ?_
  rintro i H x H' _ _ ⟨e, c, hc, rfl⟩
  refine ⟨e, ?_⟩
  unfold signsV
  rw [List.getElem?_map, Array.getElem?_toList, hc]
  rfl
theorem walk_rangeV {lo : Int} {n : Nat} : Walk (Itr lo n) (rangeV lo n).length (fun _ => True) (YAt (rangeV lo n)) := by
  rw [rangeV_len]
  refine (walk_range (lo := lo) (n := n)).mono (fun _ h => h) ?_
  rintro i H x H' hi _ ⟨e, rfl⟩
  refine ⟨e, ?_⟩
  unfold rangeV
  rw [List.getElem?_map, List.getElem?_range hi]
  rfl
theorem wipe1 (σ : L2.St) (j : Nat) : wipe σ [j] = σ.set j none := rfl
theorem wipe_set (σ : L2.St) (j : Nat) (x : Option V) : wipe ((wipe σ [j]).set j x) [j] = wipe σ [j] := by
  rw [wipe1, wipe1, List.set_set, List.set_set]
/-- a comprehension's end: what tLc asks behind the walked thing -/
abbrev LcAsk (J : It) (g : TG) (tt : TT) (te : TE) (vs : List Nat) (σ : L2.St) (H1 : Hp) (Q : VK) : Prop :=
  ∀ D, H1 D = none → ∃ W : Nat → Nat → Hp → Prop, (∃ m, W 0 m (upd H1 D (.lst []))) ∧ ∀ i m H, W i m H →
    (J.stop i H ∧ Q (.ref D) H) ∨ (J.go i H ∧ ∃ Nx : Hp → Prop, (∀ H', Nx H' → ∃ m', m' < m ∧ W (i + 1) m' H') ∧ ∀ x H', J.yld i H x H' →
      g x (wipe σ vs) H' fun σ2 H2 => wipe σ2 vs = wipe σ vs ∧ tt σ2 H2 fun b H3 => if b = true then te σ2 H3 fun y H4 => ∃ acc, H4 D = some (.lst acc) ∧ acc.length < sizeLine ∧ Nx (upd H4 D (.lst (acc ++ [y]))) else Nx H3)
section
variable {J : It} {xs : List V} {G : Hp → Prop} {j : Nat} {σ : L2.St} {tt : TT} {te : TE} {H : Hp} {Q : VK}
theorem small5 {n : Nat} (h : n ≤ 100000) : n < sizeLine := Nat.lt_of_le_of_lt h (by decide)
/-- a comprehension whose tests and elements only read -/
theorem lcP {vs : List Nat} (w : Walk J xs.length G (YAt xs)) (f : V → Bool) (g : V → V) (hG : ∀ H', Same H H' → G H') (hz : xs.length ≤ 100000)
    (ht : ∀ x, x ∈ xs → ∀ H', Same H H' → ∀ Q' : Bool → Hp → Prop, (∀ H'', Same H' H'' → Q' (f x) H'') → tt ((σ.set j none).set j (some x)) H' Q')
    (he : ∀ x, x ∈ xs → f x = true → ∀ H', Same H H' → ∀ Q' : VK, (∀ H'', Same H' H'' → Q' (g x) H'') → te ((σ.set j none).set j (some x)) H' Q')
    (k : ∀ D H', H D = none → Same H H' → H' D = some (.lst ((xs.filter f).map g)) → Q (.ref D) H') (hv : vs = [j] := by rfl) : LcAsk J (gName j) tt te vs σ H Q := by
  subst hv
  intro D hD
  refine lc_it w (fun i H' => Same H H' ∧ H' D = some (.lst (((xs.take i).filter f).map g))) ⟨same_new hD, upd_same⟩ (fun i H' _ p => hG H' p.1) ?_ ?_
  · rintro i x H1 H2 hi ⟨s1, d1⟩ ⟨rfl, hx⟩
    have hm : x ∈ xs := List.mem_of_getElem? hx
    have tk : xs.take (i + 1) = xs.take i ++ [x] := by rw [List.take_add_one, hx]; rfl
    refine ⟨wipe_set σ j _, ?_⟩
    refine ht x hm H2 s1 _ fun H3 s3 => ?_
    cases hf : f x with
    | false =>
      rw [if_neg Bool.false_ne_true]
      refine ⟨s1.trans s3, ?_⟩
      rw [s3 _ _ d1, tk, List.filter_append, List.filter_cons_of_neg (by rw [hf]; exact Bool.false_ne_true), List.filter_nil, List.append_nil]
    | true =>
      rw [if_pos rfl]
      refine he x hm hf H3 (s1.trans s3) _ fun H4 s4 => ?_
      refine ⟨_, s4 _ _ (s3 _ _ d1), ?_, same_mut ((s1.trans s3).trans s4) hD, ?_⟩
      · rw [List.length_map]
        refine small5 (Nat.le_trans (List.length_filter_le _ _) ?_)
        rw [List.length_take]
        omega
      · rw [upd_same, tk, List.filter_append, List.filter_cons_of_pos hf, List.filter_nil, List.map_append]
        rfl
  · rintro H' ⟨s1, d1⟩
    rw [List.take_length] at d1
    exact k D H' hD s1 d1
/-- .. without a test -/
theorem lcM {vs : List Nat} (w : Walk J xs.length G (YAt xs)) (g : V → V) (hG : ∀ H', Same H H' → G H') (hz : xs.length ≤ 100000)
    (he : ∀ x, x ∈ xs → ∀ H', Same H H' → ∀ Q' : VK, (∀ H'', Same H' H'' → Q' (g x) H'') → te ((σ.set j none).set j (some x)) H' Q')
    (k : ∀ D H', H D = none → Same H H' → H' D = some (.lst (xs.map g)) → Q (.ref D) H') (hv : vs = [j] := by rfl) : LcAsk J (gName j) tYes te vs σ H Q :=
  lcP (hv := hv) w (fun _ => true) g hG hz (fun x _ H' _ Q' q => q H' (Same.refl H')) (fun x m _ => he x m) fun D H' h1 h2 h3 => k D H' h1 h2 (by rw [h3, List.filter_eq_self.mpr (fun _ _ => rfl)])
end
/-! ### where a bag is drawn from -/
/-- b is a bag and hidden; what is hidden stands there -/
structure Wd (K : PySem.W.Frag) (B : Addr → Bool) (ω : Bg) (H : Hp) : Prop where
  bag : Bag K H ω
  hb : B ω.b = true
  hB : ∀ a, B a = true → H a ≠ none
section
variable {K : PySem.W.Frag} {B : Addr → Bool} {ω : Bg} {H H' : Hp}
theorem Wd.off (h : Wd K B ω H) {p : Addr} (n : H p = none) : B p = false := by
  cases e : B p with
  | false => rfl
  | true => exact absurd n (h.hB p e)
theorem some_go (g : Bag K H' ω) (x : Go ω.b H H') {a : Addr} (n : H a ≠ none) : H' a ≠ none := by
  by_cases e : a = ω.b
  · obtain ⟨o, z⟩ := g.some
    rw [e, z]
    exact Option.some_ne_none o
  · cases q : H a with
    | none => exact absurd q n
    | some o =>
      rw [x a o e q]
      exact Option.some_ne_none o
theorem free_go (g : Bag K H' ω) (x : Go ω.b H H') {a : Addr} (n : H' a = none) : H a = none := by
  cases q : H a with
  | none => rfl
  | some o => exact absurd n (some_go g x (by rw [q]; exact Option.some_ne_none o))
theorem Wd.go (h : Wd K B ω H) (g : Bag K H' ω) (x : Go ω.b H H') : Wd K B ω H' := ⟨g, h.hb, fun a z => some_go g x (h.hB a z)⟩
theorem Wd.same (h : Wd K B ω H) (x : Same H H') : Wd K B ω H' := h.go (h.bag.same x) (Go.of x)
/-- one address more is hidden -/
def hide (p : Addr) (B : Addr → Bool) : Addr → Bool := fun a => decide (a = p) || B a
theorem Wd.more (h : Wd K B ω H) {p : Addr} {o : HO} (e : H p = some o) : Wd K (hide p B) ω H := by
  refine ⟨h.bag, ?_, fun a z => ?_⟩
  · unfold hide
    rw [h.hb, Bool.or_true]
  · unfold hide at z
    rcases Bool.or_eq_true_iff.mp z with z | z
    · rw [of_decide_eq_true z, e]
      exact Option.some_ne_none o
    · exact h.hB a z
theorem hide_sub (p : Addr) (B : Addr → Bool) (H : Hp) : Same (hd (hide p B) H) (hd B H) := fun a o h => by
  obtain ⟨h1, h2⟩ := hd_some h
  exact hd_of ((Bool.or_eq_false_iff.mp h1).2) h2
theorem hide_same (p : Addr) (B : Addr → Bool) (H : Hp) {o : HO} : Same (hd (hide p B) H) (hd (hide p B) (upd H p o)) := fun a u h => by
  obtain ⟨h1, h2⟩ := hd_some h
  have n : a ≠ p := of_decide_eq_false ((Bool.or_eq_false_iff.mp h1).1)
  exact hd_of h1 (by rw [upd_ne n]; exact h2)
theorem hide_new {p : Addr} {B : Addr → Bool} {H : Hp} {o : HO} (n : H p = none) : Same (hd B H) (hd (hide p B) (upd H p o)) := fun a u h => by
  obtain ⟨h1, h2⟩ := hd_some h
  have e : a ≠ p := ne_of_none h2 n
  refine hd_of ?_ (by rw [upd_ne e]; exact h2)
  unfold hide
  rw [h1, decide_eq_false e]
  rfl
end
section
variable {K : PySem.W.Frag} {ω : Bg} {J : It} {xs : List V} {G : Hp → Prop} {j : Nat} {σ : L2.St} {tt : TT} {te : TE} {H : Hp} {Q : VK}
/-- a comprehension within which is drawn: Iv by the turn, what is made so far, and the heap but for what is hidden -/
theorem lcD {vs : List Nat} (w : Walk J xs.length G (YAt xs)) (B : Addr → Bool) (wd : Wd K B ω H) (Iv : Nat → List V → Hp → Prop) (mono : ∀ i acc G1 G2, Same G1 G2 → Iv i acc G1 → Iv i acc G2)
    (hG : ∀ H', Same (hd B H) (hd B H') → G H') (hz : xs.length ≤ 100000) (h0 : Iv 0 [] (hd B H))
    (hs : ∀ i x acc B' H', xs[i]? = some x → (∀ a, B a = true → B' a = true) → Same (hd B H) (hd B' H') → Wd K B' ω H' → Iv i acc (hd B' H') →
      tt ((σ.set j none).set j (some x)) H' fun c H3 => if c = true then te ((σ.set j none).set j (some x)) H3 fun y H4 => Bag K H4 ω ∧ Go ω.b H' H4 ∧ Iv (i + 1) (acc ++ [y]) (hd B' H4) else Bag K H3 ω ∧ Go ω.b H' H3 ∧ Iv (i + 1) acc (hd B' H3))
    (mt : ∀ σ H (Q1 Q2 : Bool → Hp → Prop), (∀ c H', Q1 c H' → Q2 c H') → tt σ H Q1 → tt σ H Q2) (me : ∀ σ H (Q1 Q2 : VK), (∀ v H', Q1 v H' → Q2 v H') → te σ H Q1 → te σ H Q2)
    (k : ∀ D acc H', H D = none → acc.length ≤ xs.length → Wd K B ω H' → Go ω.b H H' → Iv xs.length acc (hd (hide D B) H') → H' D = some (.lst acc) → Q (.ref D) H') (hv : vs = [j] := by rfl) : LcAsk J (gName j) tt te vs σ H Q := by
  subst hv
  intro D hD
  have nb : D ≠ ω.b := fun e => by
    obtain ⟨o, z⟩ := wd.bag.some
    rw [e, z] at hD
    cases hD
  have bD : B D = false := wd.off hD
  refine lc_it w (fun i H' => ∃ acc, acc.length ≤ i ∧ Wd K B ω H' ∧ Go ω.b H H' ∧ H' D = some (.lst acc) ∧ Iv i acc (hd (hide D B) H')) ⟨[], Nat.le_refl _, wd.same (same_new hD), Go.of (same_new hD), upd_same, mono _ _ _ _ (hide_new hD) h0⟩ ?_ ?_ ?_
  · rintro i H' _ ⟨acc, _, wd', g', _, _⟩
    exact hG H' (g'.hd wd.hb)
  · rintro i x H1 H2 hi ⟨acc, hl, wd', g', hd', iv⟩ ⟨rfl, hx⟩
    refine ⟨wipe_set σ j _, ?_⟩
    have sm : Same (hd B H) (hd (hide D B) H2) := fun a o z => by
      obtain ⟨h1, h2⟩ := hd_some z
      have n : a ≠ D := ne_of_none h2 hD
      refine hd_of ?_ (g' a o (fun e => by rw [e, wd.hb] at h1; cases h1) h2)
      unfold hide
      rw [h1, decide_eq_false n]
      rfl
    refine mt _ _ _ _ (fun c H3 z => ?_) (hs i x acc (hide D B) H2 hx (fun a z => by unfold hide; rw [z, Bool.or_true]) sm (wd'.more hd') iv)
    cases c with
    | false =>
      rw [if_neg Bool.false_ne_true] at z ⊢
      obtain ⟨z1, z2, z3⟩ := z
      exact ⟨acc, by omega, wd'.go z1 z2, g'.trans z2, z2 _ _ nb hd', z3⟩
    | true =>
      rw [if_pos rfl] at z ⊢
      refine me _ _ _ _ (fun y H4 z => ?_) z
      obtain ⟨z1, z2, z3⟩ := z
      have d4 : H4 D = some (.lst acc) := z2 _ _ nb hd'
      refine ⟨acc, d4, small5 (by omega), acc ++ [y], by rw [List.length_append]; exact Nat.add_le_add_right hl 1, ?_, ?_, upd_same, mono _ _ _ _ (hide_same D B H4) z3⟩
      · have w4 : Wd K B ω H4 := wd'.go z1 z2
        refine ⟨?_, w4.hb, fun a z => ?_⟩
        · obtain ⟨x0, x1, x2, g⟩ := z1
          obtain ⟨y0, y1, y2, g0⟩ := wd.bag
          refine ⟨x0, x1, x2, by rw [upd_ne (Ne.symm nb)]; exact g.at_, ?_, g.ne, g.h0, g.h1, g.h2, g.hc⟩
          rcases g0.cells with (q | ⟨u, q⟩) | q
          · exact seq_ne g.cells (ne_of_none q hD)
          · exact seq_ne g.cells (ne_of_none q hD)
          · exact Or.inr q
        · by_cases e : a = D
          · rw [e, upd_same]
            exact Option.some_ne_none _
          · rw [upd_ne e]
            exact w4.hB a z
      · exact go_new (g'.trans z2) hD
  · rintro H' ⟨acc, hl, wd', g', hd', iv⟩
    exact k D acc H' hD hl wd' g' iv hd'
end
/-! ### the same from the comprehension as a whole -/
section
variable {wi : TI} {J : It} {xs : List V} {G : Hp → Prop} {j : Nat} {vs : List Nat} {σ : L2.St} {tt : TT} {te : TE} {H : Hp} {Q : VK}
theorem tlcP (J : It) (xs : List V) (G : Hp → Prop) (f : V → Bool) (g : V → V) (hw : ∀ R : It → Hp → Prop, (∀ H1, Same H H1 → G H1 → R J H1) → wi σ H R) (w : Walk J xs.length G (YAt xs)) (hG : ∀ H1 H2, Same H1 H2 → G H1 → G H2) (hz : xs.length ≤ 100000)
    (ht : ∀ x, x ∈ xs → ∀ H', Same H H' → ∀ Q' : Bool → Hp → Prop, (∀ H'', Same H' H'' → Q' (f x) H'') → tt ((σ.set j none).set j (some x)) H' Q')
    (he : ∀ x, x ∈ xs → f x = true → ∀ H', Same H H' → ∀ Q' : VK, (∀ H'', Same H' H'' → Q' (g x) H'') → te ((σ.set j none).set j (some x)) H' Q')
    (k : ∀ D H', H D = none → Same H H' → H' D = some (.lst ((xs.filter f).map g)) → Q (.ref D) H') (hv : vs = [j] := by rfl) : tLc wi (gName j) tt te vs σ H Q := by
  refine hw _ fun H1 s1 g1 => ?_
  exact lcP (H := H1) (hv := hv) w f g (fun H' s' => hG H1 H' s' g1) hz (fun x m H' s' => ht x m H' (s1.trans s')) (fun x m e H' s' => he x m e H' (s1.trans s')) fun D H' h1 h2 h3 => k D H' (s1.free h1) (s1.trans h2) h3
theorem tlcM (J : It) (xs : List V) (G : Hp → Prop) (g : V → V) (hw : ∀ R : It → Hp → Prop, (∀ H1, Same H H1 → G H1 → R J H1) → wi σ H R) (w : Walk J xs.length G (YAt xs)) (hG : ∀ H1 H2, Same H1 H2 → G H1 → G H2) (hz : xs.length ≤ 100000)
    (he : ∀ x, x ∈ xs → ∀ H', Same H H' → ∀ Q' : VK, (∀ H'', Same H' H'' → Q' (g x) H'') → te ((σ.set j none).set j (some x)) H' Q')
    (k : ∀ D H', H D = none → Same H H' → H' D = some (.lst (xs.map g)) → Q (.ref D) H') (hv : vs = [j] := by rfl) : tLc wi (gName j) tYes te vs σ H Q := by
  refine hw _ fun H1 s1 g1 => ?_
  exact lcM (H := H1) (hv := hv) w g (fun H' s' => hG H1 H' s' g1) hz (fun x m H' s' => he x m H' (s1.trans s')) fun D H' h1 h2 h3 => k D H' (s1.free h1) (s1.trans h2) h3
/-- over a text -/
theorem comp_str {te0 : TE} {x : Str} (g : V → V) (h0 : ∀ R : VK, (∀ H1, Same H H1 → R (.str x) H1) → te0 σ H R) (hz : x.length ≤ 100000)
    (he : ∀ y, y ∈ signsV x → ∀ H', Same H H' → ∀ Q' : VK, (∀ H'', Same H' H'' → Q' (g y) H'') → te ((σ.set j none).set j (some y)) H' Q')
    (k : ∀ D H', H D = none → Same H H' → H' D = some (.lst ((signsV x).map g)) → Q (.ref D) H') (hv : vs = [j] := by rfl) : tLc (iStr te0) (gName j) tYes te vs σ H Q :=
  tlcM (hv := hv) (Its x) (signsV x) (fun _ => True) g (fun R r => h0 _ fun H1 s1 => ⟨x, rfl, r H1 s1 trivial⟩) walk_strV (fun _ _ _ _ => trivial) (by rw [signsV_len]; exact hz) he k
theorem comp_strP {te0 : TE} {x : Str} (f : V → Bool) (g : V → V) (h0 : ∀ R : VK, (∀ H1, Same H H1 → R (.str x) H1) → te0 σ H R) (hz : x.length ≤ 100000)
    (ht : ∀ y, y ∈ signsV x → ∀ H', Same H H' → ∀ Q' : Bool → Hp → Prop, (∀ H'', Same H' H'' → Q' (f y) H'') → tt ((σ.set j none).set j (some y)) H' Q')
    (he : ∀ y, y ∈ signsV x → f y = true → ∀ H', Same H H' → ∀ Q' : VK, (∀ H'', Same H' H'' → Q' (g y) H'') → te ((σ.set j none).set j (some y)) H' Q')
    (k : ∀ D H', H D = none → Same H H' → H' D = some (.lst (((signsV x).filter f).map g)) → Q (.ref D) H') (hv : vs = [j] := by rfl) : tLc (iStr te0) (gName j) tt te vs σ H Q :=
  tlcP (hv := hv) (Its x) (signsV x) (fun _ => True) f g (fun R r => h0 _ fun H1 s1 => ⟨x, rfl, r H1 s1 trivial⟩) walk_strV (fun _ _ _ _ => trivial) (by rw [signsV_len]; exact hz) ht he k
/-- over a list -/
theorem comp_list {K : PySem.W.Frag} {tl : TE} {a : Addr} {xs : List V} (g : V → V) (h0 : ∀ R : VK, (∀ H1, Same H H1 → SqL K H1 a xs → R (.ref a) H1) → tl σ H R) (hz : xs.length ≤ 100000)
    (he : ∀ y, y ∈ xs → ∀ H', Same H H' → ∀ Q' : VK, (∀ H'', Same H' H'' → Q' (g y) H'') → te ((σ.set j none).set j (some y)) H' Q')
    (k : ∀ D H', H D = none → Same H H' → H' D = some (.lst (xs.map g)) → Q (.ref D) H') (hv : vs = [j] := by rfl) : tLc (iList K tl) (gName j) tYes te vs σ H Q :=
  tlcM (hv := hv) (Itl K a) xs (fun H => SqL K H a xs) g (fun R r => h0 _ fun H1 s1 q => ⟨a, rfl, ⟨xs, q⟩, r H1 s1 q⟩) walk_list (fun _ _ s q => s.seq q) hz he k
theorem comp_listP {K : PySem.W.Frag} {tl : TE} {a : Addr} {xs : List V} (f : V → Bool) (g : V → V) (h0 : ∀ R : VK, (∀ H1, Same H H1 → SqL K H1 a xs → R (.ref a) H1) → tl σ H R) (hz : xs.length ≤ 100000)
    (ht : ∀ y, y ∈ xs → ∀ H', Same H H' → ∀ Q' : Bool → Hp → Prop, (∀ H'', Same H' H'' → Q' (f y) H'') → tt ((σ.set j none).set j (some y)) H' Q')
    (he : ∀ y, y ∈ xs → f y = true → ∀ H', Same H H' → ∀ Q' : VK, (∀ H'', Same H' H'' → Q' (g y) H'') → te ((σ.set j none).set j (some y)) H' Q')
    (k : ∀ D H', H D = none → Same H H' → H' D = some (.lst ((xs.filter f).map g)) → Q (.ref D) H') (hv : vs = [j] := by rfl) : tLc (iList K tl) (gName j) tt te vs σ H Q :=
  tlcP (hv := hv) (Itl K a) xs (fun H => SqL K H a xs) f g (fun R r => h0 _ fun H1 s1 q => ⟨a, rfl, ⟨xs, q⟩, r H1 s1 q⟩) walk_list (fun _ _ s q => s.seq q) hz ht he k
/-- over range(n), drawn from within or not -/
theorem tlcD {K : PySem.W.Frag} {ω : Bg} {ι : Type} (J : ι → It) (xs : ι → List V) (G : ι → Hp → Prop) (B : Addr → Bool) (wd : Wd K B ω H) (Iv : ι → Nat → List V → Hp → Prop) (Pi : ι → Prop)
    (hw : ∀ R : It → Hp → Prop, (∀ i H1, Pi i → Bag K H1 ω → Go ω.b H H1 → R (J i) H1) → wi σ H R) (w : ∀ i, Walk (J i) (xs i).length (G i) (YAt (xs i))) (mono : ∀ c i acc G1 G2, Same G1 G2 → Iv c i acc G1 → Iv c i acc G2)
    (hG : ∀ c H1 H', Pi c → Same (hd B H) (hd B H1) → Same (hd B H1) (hd B H') → G c H') (hz : ∀ c, Pi c → (xs c).length ≤ 100000) (h0 : ∀ c H1, Pi c → Same (hd B H) (hd B H1) → Iv c 0 [] (hd B H1))
    (hs : ∀ c i x acc B' H', Pi c → (xs c)[i]? = some x → (∀ a, B a = true → B' a = true) → Same (hd B H) (hd B' H') → Wd K B' ω H' → Iv c i acc (hd B' H') →
      tt ((σ.set j none).set j (some x)) H' fun b H3 => if b = true then te ((σ.set j none).set j (some x)) H3 fun y H4 => Bag K H4 ω ∧ Go ω.b H' H4 ∧ Iv c (i + 1) (acc ++ [y]) (hd B' H4) else Bag K H3 ω ∧ Go ω.b H' H3 ∧ Iv c (i + 1) acc (hd B' H3))
    (mt : ∀ σ H (Q1 Q2 : Bool → Hp → Prop), (∀ c H', Q1 c H' → Q2 c H') → tt σ H Q1 → tt σ H Q2) (me : ∀ σ H (Q1 Q2 : VK), (∀ v H', Q1 v H' → Q2 v H') → te σ H Q1 → te σ H Q2)
    (k : ∀ c D acc H', Pi c → H D = none → acc.length ≤ (xs c).length → Wd K B ω H' → Go ω.b H H' → Iv c (xs c).length acc (hd (hide D B) H') → H' D = some (.lst acc) → Q (.ref D) H') (hv : vs = [j] := by rfl) : tLc wi (gName j) tt te vs σ H Q := by
  refine hw _ fun c H1 pc g1 go1 => ?_
  have wd1 := wd.go g1 go1
  have sm := go1.hd wd.hb
  refine lcD (H := H1) (hv := hv) (w c) B wd1 (Iv c) (mono c) (fun H' s' => hG c H1 H' pc sm s') (hz c pc) (h0 c H1 pc sm) (fun i x acc B' H' hx hB s' w' iv => hs c i x acc B' H' pc hx hB (sm.trans s') w' iv) mt me ?_
  intro D acc H' h1 h2 h3 h4 h5 h6
  exact k c D acc H' pc (free_go g1 go1 h1) h2 h3 (go1.trans h4) h5 h6
end
/-! ### a comprehension whose answers are told as a list -/
section
variable {wi : TI} {J : It} {xs ys : List V} {G : Hp → Prop} {j : Nat} {vs : List Nat} {σ : L2.St} {te : TE} {H : Hp} {Q : VK}
theorem tlcL (J : It) (xs ys : List V) (G : Hp → Prop) (hl : ys.length = xs.length) (hw : ∀ R : It → Hp → Prop, (∀ H1, Same H H1 → G H1 → R J H1) → wi σ H R) (w : Walk J xs.length G (YAt xs)) (hG : ∀ H1 H2, Same H1 H2 → G H1 → G H2) (hz : xs.length ≤ 100000)
    (he : ∀ (i : Nat) (x y : V), xs[i]? = some x → ys[i]? = some y → ∀ H', Same H H' → ∀ Q' : VK, (∀ H'', Same H' H'' → Q' y H'') → te ((σ.set j none).set j (some x)) H' Q')
    (k : ∀ D H', H D = none → Same H H' → H' D = some (.lst ys) → Q (.ref D) H') (hv : vs = [j] := by rfl) : tLc wi (gName j) tYes te vs σ H Q := by
  subst hv
  refine hw _ fun H1 s1 g1 => ?_
  intro D hD
  refine lc_it w (fun i H' => Same H1 H' ∧ H' D = some (.lst (ys.take i))) ⟨same_new hD, upd_same⟩ (fun i H' _ p => hG H1 H' p.1 g1) ?_ ?_
  · rintro i x H2 H3 hi ⟨s2, d2⟩ ⟨rfl, hx⟩
    have hy : i < ys.length := by omega
    refine ⟨wipe_set σ j _, ?_⟩
    dsimp only [tYes]
    rw [if_pos rfl]
    refine he i x ys[i] hx (List.getElem?_eq_getElem hy) H3 (s1.trans s2) _ fun H4 s4 => ?_
    refine ⟨_, s4 _ _ d2, ?_, same_mut (s2.trans s4) hD, ?_⟩
    · rw [List.length_take]
      exact small5 (by omega)
    · rw [upd_same, List.take_add_one, List.getElem?_eq_getElem hy]
      rfl
  · rintro H' ⟨s2, d2⟩
    rw [← hl, List.take_length] at d2
    exact k D H' (s1.free hD) (s1.trans s2) d2
theorem comp_listL {K : PySem.W.Frag} {tl : TE} {a : Addr} (ys : List V) (h0 : ∀ R : VK, (∀ H1, Same H H1 → SqL K H1 a xs → R (.ref a) H1) → tl σ H R) (hl : ys.length = xs.length) (hz : xs.length ≤ 100000)
    (he : ∀ (i : Nat) (x y : V), xs[i]? = some x → ys[i]? = some y → ∀ H', Same H H' → ∀ Q' : VK, (∀ H'', Same H' H'' → Q' y H'') → te ((σ.set j none).set j (some x)) H' Q')
    (k : ∀ D H', H D = none → Same H H' → H' D = some (.lst ys) → Q (.ref D) H') (hv : vs = [j] := by rfl) : tLc (iList K tl) (gName j) tYes te vs σ H Q :=
  tlcL (hv := hv) (Itl K a) xs ys (fun H => SqL K H a xs) hl (fun R r => h0 _ fun H1 s1 q => ⟨a, rfl, ⟨xs, q⟩, r H1 s1 q⟩) walk_list (fun _ _ s q => s.seq q) hz he k
end
end Z

set_option maxRecDepth 100000
set_option maxHeartbeats 2000000
namespace Z
open PySem PySem.Spec PyProof.Rows L2
theorem paired_get {α β : Type} {F : α → β → Prop} : ∀ {l : List α} {m : List β}, l.length = m.length → (∀ (i : Nat) (a : α) (b : β), l[i]? = some a → m[i]? = some b → F a b) → Paired F l m
  | [], [], _, _ => .nil
  | [], _ :: _, e, _ => by simp at e
  | _ :: _, [], e, _ => by simp at e
  | a :: l, b :: m, e, h => .cons (h 0 a b rfl rfl) (paired_get (by simpa using e) fun i x y hx hy => h (i + 1) x y hx hy)
section
variable {X : Cx}
/-- list(a text), list(a list or a tuple) -/
def rListZ (K : PySem.W.Frag) : List V → Hp → VK → Prop := fun vs H Q => match vs with
  | [.str x] => x.length ≤ sizeLine ∧ ∀ l, H l = none → Q (.ref l) (upd H l (.lst (signsV x)))
  | [.ref p] => ∃ ys, (SqL K H p ys ∨ SqT K H p ys) ∧ ∀ l, H l = none → Q (.ref l) (upd H l (.lst ys))
  | _ => False
theorem call_listZ (hc : X.calm = true) : CallR X (.type "list") (rListZ X.K) := by
  intro pins s σ H xs us Q I r h
  unfold rListZ at h
  split at h
  · rename_i x
    obtain ⟨u, rfl, rx⟩ := vals1 r
    obtain ⟨t, rfl⟩ := rx
    obtain ⟨h1, h2⟩ := h
    refine call_list_str (I.ok.hd hc) x t (fun h' tk acc c keep obj its => ?_) h1
    have rv : Vals (signsV x) acc.toList := by
      have len : acc.toList.length = (signsV x).length := by
        rw [signsV_len, Array.length_toList, its.1]
        rfl
      refine paired_get len.symm ?_
      intro i a b ha hb
      obtain ⟨cc, tt, e1, e2⟩ := its.2 i b (by simpa using hb)
      have e3 : (signsV x)[i]? = some (.str ⟨#[cc]⟩) := by
        unfold signsV
        rw [List.getElem?_map, Array.getElem?_toList, e1]
        rfl
      rw [e3] at ha
      cases ha
      exact ⟨tt, e2⟩
    refine ⟨.ref s.heap.objs.size, _, I.laid keep (Nat.le_refl _) ?_, rfl, h2 _ (I.hok.fresh (Nat.le_refl _))⟩
    exact ⟨by rw [signsV_len]; exact h1, acc.toList, c, rv, by simpa using obj⟩
  · obtain ⟨ys, h1, h2⟩ := h
    exact call_list_of pins s σ H _ us Q I r ⟨_, ys, rfl, h1, h2⟩
  · exact h.elim
end
/-! ### things that are small enough to be shown -/
structure Nice (R n : Nat) (d : PyData) : Prop where
  sh : d.showable = true
  lv : d.leavesShort 600 = true
  wt : d.weight ≤ R
  dp : d.depth ≤ n
  ly : d.hasDict = false → d.canLay0 = true
theorem Nice.mono {R R' n n' : Nat} {d : PyData} (h : Nice R n d) (a : R ≤ R') (b : n ≤ n') : Nice R' n' d := ⟨h.sh, h.lv, Nat.le_trans h.wt a, Nat.le_trans h.dp b, h.ly⟩
theorem Nice.fits {R n : Nat} {d : PyData} (h : Nice R n d) (a : R ≤ 20000) : d.shown.length ≤ sizeLine := by
  have h1 := PyData.shown_le 600 (by decide) d h.lv
  have h2 := h.wt
  have h3 : sizeLine = 16777216 := sizeLine_eq
  have h4 : (600 + 2) * d.weight ≤ 602 * 20000 := Nat.mul_le_mul_left _ (Nat.le_trans h2 a)
  omega
theorem nice_all {R n : Nat} : ∀ {ds : List PyData}, (∀ d ∈ ds, Nice R n d) → PyData.showableAll ds = true ∧ PyData.leavesShortAll 600 ds = true ∧ PyData.weightAll ds ≤ ds.length * (R + 1) ∧ PyData.depthAll ds ≤ n ∧ (PyData.hasDictAll ds = false → PyData.canLayAll0 ds = true)
  | [], _ => ⟨by simp only [PyData.showableAll], by simp only [PyData.leavesShortAll], by simp only [PyData.weightAll]; omega, by simp only [PyData.depthAll]; omega, fun _ => by simp only [PyData.canLayAll0]⟩
  | d :: ds, h => by
    obtain ⟨h1, h2, h3, h4, h5⟩ := nice_all (ds := ds) fun e m => h e (List.mem_cons_of_mem _ m)
    obtain ⟨g1, g2, g3, g4, g5⟩ := h d List.mem_cons_self
    refine ⟨?_, ?_, ?_, ?_, fun z => ?_⟩
    · simp only [PyData.showableAll, g1, h1, Bool.and_self]
    · simp only [PyData.leavesShortAll, g2, h2, Bool.and_self]
    · simp only [PyData.weightAll, List.length_cons, Nat.add_mul]
      omega
    · simp only [PyData.depthAll]
      exact Nat.max_le.mpr ⟨g4, h4⟩
    · have z2 : d.hasDict = false ∧ PyData.hasDictAll ds = false := by simpa only [PyData.hasDictAll, Bool.or_eq_false_iff] using z
      simp only [PyData.canLayAll0, g5 z2.1, h5 z2.2, Bool.and_self]
theorem Nice.list {R R' n : Nat} {ds : List PyData} (h : ∀ d ∈ ds, Nice R n d) (e : ds.length * (R + 1) ≤ R') : Nice R' (n + 1) (.list ds) := by
  obtain ⟨h1, h2, h3, h4, h5⟩ := nice_all h
  exact ⟨by simpa only [PyData.showable] using h1, by simpa only [PyData.leavesShort] using h2, by simp only [PyData.weight]; omega, by simp only [PyData.depth]; omega, fun z => by simp only [PyData.canLay0]; exact h5 (by simpa only [PyData.hasDict] using z)⟩
theorem Nice.tuple {R R' n : Nat} {ds : List PyData} (h : ∀ d ∈ ds, Nice R n d) (e : ds.length * (R + 1) ≤ R') : Nice R' (n + 1) (.tuple ds) := by
  obtain ⟨h1, h2, h3, h4, h5⟩ := nice_all h
  exact ⟨by simpa only [PyData.showable] using h1, by simpa only [PyData.leavesShort] using h2, by simp only [PyData.weight]; omega, by simp only [PyData.depth]; omega, fun z => by simp only [PyData.canLay0]; exact h5 (by simpa only [PyData.hasDict] using z)⟩
/-- a text of signs that stand in some table below 16 ^ 8 -/
def okS (x : Str) : Bool := x.cps.toList.all fun c => decide (c < 0x110000)
theorem nice_str {x : Str} {R : Nat} (h : okS x = true) (e : x.length ≤ R) (n : Nat) : Nice R n (.str x) := by
  refine ⟨by simp only [PyData.showable], ?_, e, by simp only [PyData.depth]; omega, fun _ => ?_⟩
  rotate_left
  · simp only [PyData.canLay0]
    unfold PyData.strOk
    rw [← Array.all_toList]
    exact h
  simp only [PyData.leavesShort]
  refine List.all_eq_true.mpr fun c m => ?_
  have z := of_decide_eq_true (List.all_eq_true.mp h c m)
  exact decide_eq_true (Nat.lt_of_lt_of_le z (by decide))
theorem nice_none (R n : Nat) : Nice R n .none := ⟨by simp only [PyData.showable], by simp only [PyData.leavesShort], by simp only [PyData.weight]; omega, by simp only [PyData.depth]; omega, fun _ => by simp only [PyData.canLay0]⟩
theorem nice_bool (R n : Nat) (b : Bool) : Nice R n (.bool b) := ⟨by simp only [PyData.showable], by simp only [PyData.leavesShort], by simp only [PyData.weight]; omega, by simp only [PyData.depth]; omega, fun _ => by simp only [PyData.canLay0]⟩
/-! isinstance's answers -/
def isStr : PyData → Bool
  | .str _ => true
  | _ => false
def isList : PyData → Bool
  | .list _ => true
  | _ => false
def isBool : PyData → Bool
  | .bool _ => true
  | _ => false
def isInt : PyData → Bool
  | .int _ => true
  | .bool _ => true
  | _ => false
section
variable {K : PySem.W.Frag} {H : Hp} {Q : VK} {v : V} {d : PyData}
theorem isi_str (h : Th K H v d) (q : Q (.bl (isStr d)) H) : rIsiZ K [v, .ty "str"] H Q := ⟨d, _, h, by cases d <;> (dsimp only [tyOf, isStr, isList, isBool, isInt]; decide +kernel), q⟩
theorem isi_list (h : Th K H v d) (q : Q (.bl (isList d)) H) : rIsiZ K [v, .ty "list"] H Q := ⟨d, _, h, by cases d <;> (dsimp only [tyOf, isStr, isList, isBool, isInt]; decide +kernel), q⟩
theorem isi_bool (h : Th K H v d) (q : Q (.bl (isBool d)) H) : rIsiZ K [v, .ty "bool"] H Q := ⟨d, _, h, by cases d <;> (dsimp only [tyOf, isStr, isList, isBool, isInt]; decide +kernel), q⟩
theorem isi_int (h : Th K H v d) (q : Q (.bl (isInt d)) H) : rIsiZ K [v, .ty "int"] H Q := ⟨d, _, h, by cases d <;> (dsimp only [tyOf, isStr, isList, isBool, isInt]; decide +kernel), q⟩
theorem repr_nice {R n : Nat} (h : Th K H v d) (w : Nice R n d) (a : R ≤ 20000) (b : n ≤ 60) (q : Q (.str d.shown) H) : rReprZ K [v] H Q := ⟨d, h, w.sh, w.fits a, Nat.le_trans w.dp b, q⟩
theorem th_str (h : Th K H v d) (e : isStr d = true) : ∃ x, d = .str x ∧ v = .str x := by
  cases h with
  | str x => exact ⟨x, rfl, rfl⟩
  | _ => cases e
theorem th_list (h : Th K H v d) (e : isList d = true) : ∃ a xs ds, d = .list ds ∧ v = .ref a ∧ SqL K H a xs ∧ ThA K H xs ds := by
  cases h with
  | lst h a => exact ⟨_, _, _, rfl, rfl, h, a⟩
  | _ => cases e
end
/-! ### the rules with the written part told (a comprehension's block has it too) -/
section
variable {X : Cx}
theorem op_inK (K : PySem.W.Frag) (hK : X.K = K := by rfl) : OpR X (compareOp .In) (rInZ K id) := by subst hK; exact op_inZ
theorem op_notInK (K : PySem.W.Frag) (hK : X.K = K := by rfl) : OpR X (compareOp .NotIn) (rInZ K not) := by subst hK; exact op_notInZ
theorem op_eqK (K : PySem.W.Frag) (hu : X.A.units + 64 < cLine) (hK : X.K = K := by rfl) : OpR X (compareOp .Eq) (rEqZ K id) := by subst hK; exact op_eqZ hu
theorem op_neK (K : PySem.W.Frag) (hu : X.A.units + 64 < cLine) (hK : X.K = K := by rfl) : OpR X (compareOp .NotEq) (rEqZ K not) := by subst hK; exact op_neZ hu
theorem ix_K (K : PySem.W.Frag) (hK : X.K = K := by rfl) : IxR X (rIxZ K) := by subst hK; exact ix_Z
theorem sl_K (K : PySem.W.Frag) (hK : X.K = K := by rfl) : SlR X (rSlZ K) := by subst hK; exact sl_Z
theorem call_lenK (K : PySem.W.Frag) (hK : X.K = K := by rfl) : CallR X (.builtin "len") (rLenZ K) := by subst hK; exact call_lenZ
theorem call_allK (K : PySem.W.Frag) (hK : X.K = K := by rfl) (hc : X.calm = true := by rfl) : CallR X (.builtin "all") (rAllZ K fun bs => bs.all id) := by subst hK; exact call_allZ hc
theorem call_anyK (K : PySem.W.Frag) (hK : X.K = K := by rfl) (hc : X.calm = true := by rfl) : CallR X (.builtin "any") (rAllZ K fun bs => bs.any id) := by subst hK; exact call_anyZ hc
theorem call_isiK (K : PySem.W.Frag) (hK : X.K = K := by rfl) : CallR X (.builtin "isinstance") (rIsiZ K) := by subst hK; exact call_isiZ
theorem call_reprK (K : PySem.W.Frag) (hu : X.A.units + 64 < cLine) (hg : X.A.guards = some []) (hK : X.K = K := by rfl) : CallR X (.builtin "repr") (rReprZ K) := by subst hK; exact call_reprZ hu hg
theorem call_listK (K : PySem.W.Frag) (hK : X.K = K := by rfl) (hc : X.calm = true := by rfl) : CallR X (.type "list") (rListZ K) := by subst hK; exact call_listZ hc
theorem pget_K (K : PySem.W.Frag) (hK : X.K = K := by rfl) : PGet X (gIxZ K) := by subst hK; exact pget_Z
theorem pi_listK (K : PySem.W.Frag) {tg l : Expr} {tl : TE} (h : PE X l tl) (hK : X.K = K := by rfl) : PI X tg l (iList K tl) := by subst hK; exact pi_list h
theorem pi_tupK (K : PySem.W.Frag) {tg l : Expr} {tl : TE} (h : PE X l tl) (hK : X.K = K := by rfl) : PI X tg l (iTup K tl) := by subst hK; exact pi_tup h
/-- sep.join(texts) -/
def zJoin (K : PySem.W.Frag) (to te : TE) : TE := fun σ H Q => to σ H fun x H1 => te σ H1 fun y H2 => onS x fun a => onR y fun p => ∃ ys : List Str, (SqL K H2 p (ys.map V.str) ∨ SqT K H2 p (ys.map V.str)) ∧ (ys.map (·.length)).sum + ys.length * a.length ≤ 16777216 ∧ Q (.str (Txt.join a ys)) H2
/-- a tuple of a list, of a tuple -/
def rTupleZ (K : PySem.W.Frag) : List V → Hp → VK → Prop := fun vs H Q => match vs with
  | [.ref p] => ∃ ys, (SqL K H p ys ∧ ∀ l, H l = none → Q (.ref l) (upd H l (.tup ys))) ∨ (SqT K H p ys ∧ Q (.ref p) H)
  | _ => False
theorem call_tupleK (K : PySem.W.Frag) (hK : X.K = K := by rfl) : CallR X (.type "tuple") (rTupleZ K) := by
  subst hK
  refine callImp call_tuple_of fun xs H Q h => ?_
  unfold rTupleZ at h
  split at h
  · obtain ⟨ys, h⟩ := h
    exact ⟨_, ys, rfl, h⟩
  · exact h.elim
end
section
variable {K : PySem.W.Frag} {H : Hp} {Q : VK} {p : Addr} {bs : List Bool} {b : Bool}
theorem allL (h : SqL K H p (bs.map V.bl)) (e : bs.all id = b) (q : Q (.bl b) H) : rAllZ K (fun bs => bs.all id) [.ref p] H Q := ⟨bs, h, by
  show Q (.bl (bs.all id)) H
  rw [e]
  exact q⟩
theorem anyL (h : SqL K H p (bs.map V.bl)) (e : bs.any id = b) (q : Q (.bl b) H) : rAllZ K (fun bs => bs.any id) [.ref p] H Q := ⟨bs, h, by
  show Q (.bl (bs.any id)) H
  rw [e]
  exact q⟩
theorem bl_is {b b' : Bool} (e : b' = b) (q : Q (.bl b) H) : Q (.bl b') H := by
  rw [e]
  exact q
theorem inS {f : Bool → Bool} {c : Nat} {z : Str} (q : Q (.bl (f (decide (c ∈ z.cps.toList)))) H) : rInZ K f (.str ⟨#[c]⟩) (.str z) H Q := ⟨c, rfl, q⟩
end
theorem signIn1 (g : Nat → Bool) (c : Nat) : ([c] : List Nat).all g = g c := by
  rw [List.all_cons, List.all_nil, Bool.and_true]
/-- a reading of each sign of a text -/
def onSigns (g : Nat → Bool) : V → Bool
  | .str z => z.cps.toList.all g
  | _ => false
theorem onSigns1 (g : Nat → Bool) (c : Nat) : onSigns g (.str ⟨#[c]⟩) = g c := signIn1 g c
theorem signs_map (g : Nat → Bool) (x : Str) : (signsV x).map (fun v => V.bl (onSigns g v)) = (x.cps.toList.map g).map V.bl := by
  unfold signsV
  rw [List.map_map, List.map_map]
  refine List.map_congr_left fun c _ => ?_
  exact congrArg V.bl (onSigns1 g c)
theorem mem_signs {x : Str} {y : V} (h : y ∈ signsV x) : ∃ c, c ∈ x.cps.toList ∧ y = .str ⟨#[c]⟩ := by
  obtain ⟨c, hc, rfl⟩ := List.mem_map.mp h
  exact ⟨c, hc, rfl⟩
theorem iteN {c : Bool} {A B : Prop} (h1 : c = false → A) (h2 : c = true → B) : if (!c) = true then A else B := by
  cases c with
  | true => exact iteF (h2 rfl)
  | false => exact iteT (h1 rfl)
theorem map_get {α β : Type} {f : α → β} {l : List α} {i : Nat} {a : α} {b : β} (h : l[i]? = some a) (e : (l.map f)[i]? = some b) : b = f a := by
  rw [List.getElem?_map, h] at e
  exact (Option.some.inj e).symm
theorem mapb_get {α : Type} {f : α → Bool} {l : List α} {i : Nat} {a : α} {b : V} (h : l[i]? = some a) (e : ((l.map f).map V.bl)[i]? = some b) : b = .bl (f a) := by
  rw [List.getElem?_map, List.getElem?_map, h] at e
  exact (Option.some.inj e).symm
section
variable {K : PySem.W.Frag} {H : Hp} {Q : VK} {i j : Int} {x y : Str}
theorem ltI (q : Q (.bl (decide (i < j))) H) : rLtZ (.int i) (.int j) H Q := q
theorem leI (q : Q (.bl (decide (i ≤ j))) H) : rLeZ (.int i) (.int j) H Q := q
theorem gtI (q : Q (.bl (decide (j < i))) H) : rGtZ (.int i) (.int j) H Q := q
theorem geI (q : Q (.bl (decide (j ≤ i))) H) : rGeZ (.int i) (.int j) H Q := q
theorem geS (q : Q (.bl (!ltS x y)) H) : rGeZ (.str x) (.str y) H Q := q
theorem addI (q : Q (.int (i + j)) H) : rAddZ (.int i) (.int j) H Q := q
theorem addS (h : x.length + y.length ≤ sizeLine) (q : Q (.str (x ++ y)) H) : rAddZ (.str x) (.str y) H Q := ⟨h, q⟩
theorem mulI (h : CMul i j ∨ CMulW i j) (q : Q (.int (i * j)) H) : rMulZ (.int i) (.int j) H Q := ⟨h, q⟩
theorem lenS (h : x.length ≤ sizeLine) (q : Q (.int x.length) H) : rLenZ K [.str x] H Q := ⟨h, q⟩
end
theorem line5 {n : Nat} (h : n ≤ 100000) : n ≤ sizeLine := Nat.le_of_lt (small5 h)
/-! ### lists of texts compared -/
theorem dpA_strs (K : PySem.W.Frag) (H : Hp) : ∀ l : List Str, DpAll K H (l.map V.str) (l.map PyData.str)
  | [] => .nil
  | x :: l => .cons (.str x) (dpA_strs K H l)
theorem lay_strs : ∀ {l : List Str}, (∀ x ∈ l, okS x = true) → PyData.canLayAll0 (l.map PyData.str) = true
  | [], _ => by simp only [List.map_nil, PyData.canLayAll0]
  | x :: l, h => by
    have h1 : PyData.strOk x = true := by
      unfold PyData.strOk
      rw [← Array.all_toList]
      exact h x List.mem_cons_self
    simp only [List.map_cons, PyData.canLayAll0, PyData.canLay0, h1, lay_strs fun y m => h y (List.mem_cons_of_mem _ m), Bool.and_self]
theorem depth_strs : ∀ l : List Str, PyData.depthAll (l.map PyData.str) = 0
  | [] => by simp only [List.map_nil, PyData.depthAll]
  | x :: l => by simp only [List.map_cons, PyData.depthAll, PyData.depth, depth_strs l]; decide
theorem shaped_strs {l : List Str} (h : ∀ x ∈ l, okS x = true) : SeqAt.shaped (.list (l.map .str)) = true := by
  show (PyData.canLay0 (.list (l.map .str)) && decide (PyData.depth (.list (l.map .str)) ≤ 64)) = true
  rw [Bool.and_eq_true]
  refine ⟨by simp only [PyData.canLay0]; exact lay_strs h, decide_eq_true ?_⟩
  simp only [PyData.depth, depth_strs]
  omega
theorem eqv_strs : ∀ l m : List Str, PyData.eqvAll (l.map .str) (m.map .str) = decide (l = m)
  | [], [] => by simp [PyData.eqvAll]
  | [], _ :: _ => by simp [PyData.eqvAll]
  | _ :: _, [] => by simp [PyData.eqvAll]
  | x :: l, y :: m => by
    simp only [List.map_cons, PyData.eqvAll, PyData.eqv, eqv_strs l m]
    by_cases h : x = y
    · subst h
      simp
    · simp [h]
theorem eqStrs {K : PySem.W.Frag} {f : Bool → Bool} {H : Hp} {Q : VK} {p q : Addr} {l m : List Str} (h1 : SqL K H p (l.map V.str)) (h2 : SqL K H q (m.map V.str)) (o1 : ∀ x ∈ l, okS x = true) (o2 : ∀ x ∈ m, okS x = true)
    (k : Q (.bl (f (decide (l = m)))) H) : rEqZ K f (.ref p) (.ref q) H Q := by
  refine ⟨.list (l.map .str), .list (m.map .str), .lst h1 (dpA_strs K H l), .lst h2 (dpA_strs K H m), shaped_strs o1, shaped_strs o2, ?_⟩
  have e : PyData.eqv (.list (l.map .str)) (.list (m.map .str)) = decide (l = m) := by
    simp only [PyData.eqv]
    exact eqv_strs l m
  rw [e]
  exact k
/-- one sign as a text -/
def one (c : Nat) : Str := ⟨#[c]⟩
theorem signs_filter (g : Nat → Bool) (x : Str) : ((signsV x).filter fun v => onSigns g v).map (fun v => v) = ((x.cps.toList.filter g).map one).map V.str := by
  rw [List.map_id']
  unfold signsV
  rw [List.filter_map, List.map_map]
  have e : ((fun v => onSigns g v) ∘ fun c => V.str ⟨#[c]⟩) = g := by
    funext c
    exact onSigns1 g c
  rw [e]
  rfl
theorem filter_nil (g : Nat → Bool) (l : List Nat) : decide ((l.filter (fun c => !g c)).map one = ([] : List Str)) = l.all g := by
  rw [Bool.eq_iff_iff, decide_eq_true_iff, List.map_eq_nil_iff, List.filter_eq_nil_iff, List.all_eq_true]
  refine ⟨fun h c m => ?_, fun h c m => ?_⟩
  · have z := h c m
    cases e : g c with
    | true => rfl
    | false => rw [e] at z; exact absurd rfl z
  · rw [h c m]
    exact Bool.false_ne_true
theorem ok_one {x : Str} (h : okS x = true) {c : Nat} (m : c ∈ x.cps.toList) : okS (one c) = true := by
  show ([c] : List Nat).all _ = true
  rw [signIn1]
  exact List.all_eq_true.mp h c m
theorem ok_ones {x : Str} (h : okS x = true) (g : Nat → Bool) : ∀ y ∈ (x.cps.toList.filter g).map one, okS y = true := by
  intro y hy
  obtain ⟨c, hc, rfl⟩ := List.mem_map.mp hy
  exact ok_one h (List.mem_filter.mp hc).1
theorem nice_okS {R n : Nat} {x : Str} (h : Nice R n (.str x)) : okS x = true := by
  have z := h.ly (by simp only [PyData.hasDict])
  simp only [PyData.canLay0] at z
  unfold PyData.strOk at z
  rw [← Array.all_toList] at z
  exact z
theorem nice_mem {R n : Nat} {ds : List PyData} (h : Nice R n (.list ds)) (hd : PyData.hasDictAll ds = false) {x : Str} (m : PyData.str x ∈ ds) : okS x = true := by
  have z := h.ly (by simpa only [PyData.hasDict] using hd)
  simp only [PyData.canLay0] at z
  clear h hd
  induction ds with
  | nil => cases m
  | cons e ds ih =>
    simp only [PyData.canLayAll0, Bool.and_eq_true] at z
    rcases List.mem_cons.mp m with rfl | m
    · have y := z.1
      simp only [PyData.canLay0] at y
      unfold PyData.strOk at y
      rw [← Array.all_toList] at y
      exact y
    · exact ih m z.2
end Z

set_option maxRecDepth 100000
set_option maxHeartbeats 2000000
namespace Z
open PySem PySem.Spec PyProof.Rows L2
/-! ### cuts of lists -/
theorem cut_to (xs : List V) (j : Nat) : cutV xs none (some (j : Int)) = xs.take j := by
  unfold cutV
  rw [HT.sIx_nat, HT.sIx_none, List.drop_zero, Nat.sub_zero]
  by_cases h : j ≤ xs.length
  · rw [Nat.min_eq_left h]
  · rw [Nat.min_eq_right (by omega), List.take_of_length_le (Nat.le_refl _), List.take_of_length_le (by omega)]
theorem cut_from (xs : List V) (j : Nat) : cutV xs (some (j : Int)) none = xs.drop j := by
  unfold cutV
  rw [HT.sIx_nat, HT.sIx_none]
  by_cases h : j ≤ xs.length
  · rw [Nat.min_eq_left h, List.take_of_length_le (by rw [List.length_drop]; omega)]
  · rw [Nat.min_eq_right (by omega), List.drop_eq_nil_of_le (Nat.le_refl _), List.drop_eq_nil_of_le (by omega), List.take_nil]
theorem cut_mid (xs : List V) (i j : Nat) (h : i ≤ xs.length) : cutV xs (some (i : Int)) (some (j : Int)) = (xs.drop i).take (j - i) := by
  unfold cutV
  rw [HT.sIx_nat, HT.sIx_nat, Nat.min_eq_left h]
  by_cases z : j ≤ xs.length
  · rw [Nat.min_eq_left z]
  · rw [Nat.min_eq_right (by omega), List.take_of_length_le (by rw [List.length_drop]; omega), List.take_of_length_le (by rw [List.length_drop]; omega)]
section
variable {K : PySem.W.Frag} {H : Hp} {Q : VK} {a : Addr} {xs : List V} {lo hi : Option Int}
theorem slL (h : SqL K H a xs) (q : ∀ p, H p = none → Q (.ref p) (upd H p (.lst (cutV xs lo hi)))) : rSlZ K (.ref a) lo hi H Q := ⟨xs, h, q⟩
end
/-! ### comprehensions over a list that is just made -/
section
variable {K : PySem.W.Frag} {tl : TE} {xs : List V} {j : Nat} {vs : List Nat} {σ : L2.St} {tt : TT} {te : TE} {H : Hp} {Q : VK}
theorem comp_listF (g : V → V) (h0 : ∀ R : VK, (∀ p H1, Same H H1 → SqL K H1 p xs → R (.ref p) H1) → tl σ H R) (hz : xs.length ≤ 100000)
    (he : ∀ y, y ∈ xs → ∀ H', Same H H' → ∀ Q' : VK, (∀ H'', Same H' H'' → Q' (g y) H'') → te ((σ.set j none).set j (some y)) H' Q')
    (k : ∀ D H', H D = none → Same H H' → H' D = some (.lst (xs.map g)) → Q (.ref D) H') (hv : vs = [j] := by rfl) : tLc (iList K tl) (gName j) tYes te vs σ H Q := by
  refine h0 _ fun p H1 s1 q => ⟨p, rfl, ⟨xs, q⟩, ?_⟩
  exact lcM (J := Itl K p) (G := fun H => SqL K H p xs) (H := H1) (hv := hv) walk_list g (fun H' s' => s'.seq q) hz (fun x m H' s' => he x m H' (s1.trans s')) fun D H' h1 h2 h3 => k D H' (s1.free h1) (s1.trans h2) h3
end
/-! ### one of a list, drawn -/
section
variable {K : PySem.W.Frag} {ω : Bg} {H : Hp} {Q : VK} {E : XK} {p : Addr} {xs : List V} {m : Int}
theorem take_n (g : Bag K H ω) (h0 : 0 < m) (h1 : m ≤ 1000000) (q : ∀ (j : Nat) H', (j : Int) < m → Bag K H' ω → Go ω.b H H' → Q (.int j) H') : spTake K [.ref ω.b, .int m] H Q E :=
  ⟨ω, m, rfl, g, h0, by omega, fun v H' a b g' go => by
    obtain ⟨j, rfl⟩ := Int.eq_ofNat_of_zero_le a
    exact q j H' b g' go⟩
theorem take_at (g : Bag K H ω) (hp : H p = some (.lst xs)) (np : p ≠ ω.b) (hm : m = (xs.length : Int)) (h0 : 0 < m) (h1 : m ≤ 1000000) (q : ∀ x, x ∈ xs → ∀ H', Bag K H' ω → Go ω.b H H' → Q x H') :
    spTake K [.ref ω.b, .int m] H (fun y H2 => rIxZ K (.ref p) y H2 Q) E :=
  take_n g h0 h1 fun j H' hj g' go => by
    have h : j < xs.length := by omega
    exact ixN (sq_of (go _ _ np hp)) (List.getElem?_eq_getElem h) (q _ (List.getElem_mem h) H' g' go)
theorem bag_ne (g : Bag K H ω) (hp : H p = none) : p ≠ ω.b := fun e => by
  obtain ⟨o, z⟩ := g.some
  rw [e, z] at hp
  cases hp
end
theorem bag_mut {K : PySem.W.Frag} {ω : Bg} {H H' : Hp} {D : Addr} {o : HO} (g0 : Bag K H ω) (hD : H D = none) (g : Bag K H' ω) : Bag K (upd H' D o) ω := by
  have nb : D ≠ ω.b := bag_ne g0 hD
  obtain ⟨x0, x1, x2, g⟩ := g
  obtain ⟨y0, y1, y2, g0⟩ := g0
  refine ⟨x0, x1, x2, by rw [upd_ne (Ne.symm nb)]; exact g.at_, ?_, g.ne, g.h0, g.h1, g.h2, g.hc⟩
  rcases g0.cells with (q | ⟨u, q⟩) | q
  · exact seq_ne g.cells (ne_of_none q hD)
  · exact seq_ne g.cells (ne_of_none q hD)
  · exact Or.inr q
/-! ### comprehensions with draws, what is made told by one property -/
section
variable {K : PySem.W.Frag} {ω : Bg} {J : It} {xs : List V} {G : Hp → Prop} {j : Nat} {σ : L2.St} {te : TE} {H : Hp} {Q : VK}
theorem lcE {vs : List Nat} (w : Walk J xs.length G (YAt xs)) (B : Addr → Bool) (wd : Wd K B ω H) (P : Nat → V → Hp → Prop) (mono : ∀ i y G1 G2, Same G1 G2 → P i y G1 → P i y G2)
    (hG : ∀ H', Same (hd B H) (hd B H') → G H') (hz : xs.length ≤ 100000)
    (hs : ∀ i x B' H', xs[i]? = some x → (∀ a, B a = true → B' a = true) → Same (hd B H) (hd B' H') → Wd K B' ω H' → ∀ Q' : VK, (∀ y H4, Bag K H4 ω → Go ω.b H' H4 → P i y (hd B' H4) → Q' y H4) → te ((σ.set j none).set j (some x)) H' Q')
    (k : ∀ D acc H', H D = none → acc.length = xs.length → (∀ (i : Nat) y, acc[i]? = some y → P i y (hd (hide D B) H')) → Wd K B ω H' → Go ω.b H H' → H' D = some (.lst acc) → Q (.ref D) H') (hv : vs = [j] := by rfl) : LcAsk J (gName j) tYes te vs σ H Q := by
  subst hv
  intro D hD
  have nb : D ≠ ω.b := bag_ne wd.bag hD
  have bD : B D = false := wd.off hD
  refine lc_it w (fun i H' => ∃ acc, acc.length = i ∧ Wd K B ω H' ∧ Go ω.b H H' ∧ H' D = some (.lst acc) ∧ ∀ (n : Nat) y, acc[n]? = some y → P n y (hd (hide D B) H')) ⟨[], rfl, wd.same (same_new hD), Go.of (same_new hD), upd_same, fun n y z => by simp at z⟩ ?_ ?_ ?_
  · rintro i H' _ ⟨acc, _, wd', g', _, _⟩
    exact hG H' (g'.hd wd.hb)
  · rintro i x H1 H2 hi ⟨acc, hl, wd', g', hd', iv⟩ ⟨rfl, hx⟩
    refine ⟨wipe_set σ j _, ?_⟩
    have sm : Same (hd B H) (hd (hide D B) H2) := fun a o z => by
      obtain ⟨h1, h2⟩ := hd_some z
      have n : a ≠ D := ne_of_none h2 hD
      refine hd_of ?_ (g' a o (fun e => by rw [e, wd.hb] at h1; cases h1) h2)
      unfold hide
      rw [h1, decide_eq_false n]
      rfl
    dsimp only [tYes]
    rw [if_pos rfl]
    refine hs i x (hide D B) H2 hx (fun a z => by unfold hide; rw [z, Bool.or_true]) sm (wd'.more hd') _ fun y H4 z1 z2 z3 => ?_
    have d4 : H4 D = some (.lst acc) := z2 _ _ nb hd'
    refine ⟨acc, d4, small5 (by omega), acc ++ [y], by rw [List.length_append, hl]; rfl, ?_, ?_, upd_same, ?_⟩
    · have w4 : Wd K B ω H4 := wd'.go z1 z2
      refine ⟨?_, w4.hb, fun a z => ?_⟩
      · obtain ⟨x0, x1, x2, g⟩ := z1
        obtain ⟨y0, y1, y2, g0⟩ := wd.bag
        refine ⟨x0, x1, x2, by rw [upd_ne (Ne.symm nb)]; exact g.at_, ?_, g.ne, g.h0, g.h1, g.h2, g.hc⟩
        rcases g0.cells with (q | ⟨u, q⟩) | q
        · exact seq_ne g.cells (ne_of_none q hD)
        · exact seq_ne g.cells (ne_of_none q hD)
        · exact Or.inr q
      · by_cases e : a = D
        · rw [e, upd_same]
          exact Option.some_ne_none _
        · rw [upd_ne e]
          exact w4.hB a z
    · exact go_new (g'.trans z2) hD
    · intro n y' z
      refine mono _ _ _ _ (hide_same D B H4) ?_
      rw [List.getElem?_append] at z
      split at z
      · refine mono _ _ _ _ ?_ (iv n y' z)
        exact z2.hd (wd'.more hd').hb
      · rename_i h
        have e : n = acc.length := by
          have := (List.getElem?_eq_some_iff.mp z).1
          simp at this
          omega
        subst e
        rw [Nat.sub_self] at z
        cases z
        rw [hl]
        exact z3
  · rintro H' ⟨acc, hl, wd', g', hd', iv⟩
    exact k D acc H' hD hl iv wd' g' hd'
/-- over range(n), n told behind draws, too -/
theorem comp_rngD {ta : TA} {vs : List Nat} (B : Addr → Bool) (wd : Wd K B ω H) (P : Nat → V → Hp → Prop) (mono : ∀ i y G1 G2, Same G1 G2 → P i y G1 → P i y G2) (n : Nat) (hz : n ≤ 100000) (h0 : ∀ R : List V → Hp → Prop, R [.int (n : Int)] H → ta σ H R)
    (hs : ∀ (i : Nat) B' H', i < n → (∀ a, B a = true → B' a = true) → Same (hd B H) (hd B' H') → Wd K B' ω H' → ∀ Q' : VK, (∀ y H4, Bag K H4 ω → Go ω.b H' H4 → P i y (hd B' H4) → Q' y H4) → te ((σ.set j none).set j (some (.int (i : Int)))) H' Q')
    (k : ∀ D acc H', H D = none → acc.length = n → (∀ (i : Nat) y, acc[i]? = some y → P i y (hd (hide D B) H')) → Wd K B ω H' → Go ω.b H H' → H' D = some (.lst acc) → Q (.ref D) H') (hv : vs = [j] := by rfl) : tLc (iRng1 ta) (gName j) tYes te vs σ H Q := by
  unfold tLc iRng1
  refine h0 _ ⟨n, rfl, by omega, by omega, ?_⟩
  rw [Int.toNat_natCast]
  refine lcE (G := fun _ => True) (hv := hv) walk_rangeV B wd P mono (fun _ _ => trivial) (by rw [rangeV_len]; exact hz) ?_ ?_
  · intro i x B' H' hx hB s' w' Q' q
    obtain ⟨h1, rfl⟩ := rangeV_get hx
    rw [Int.zero_add]
    exact hs i B' H' h1 hB s' w' Q' q
  · intro D acc H' a b c d e f
    rw [rangeV_len] at b
    exact k D acc H' a b c d e f
end
/-! ### sep.join(texts) -/
section
variable {X : Cx} {o e : Expr} {to te : TE}
def rJoinZ (K : PySem.W.Frag) : V → List V → Hp → VK → Prop := fun x xs H Q => match x, xs with
  | .str a, [.ref p] => ∃ ys : List Str, (SqL K H p (ys.map V.str) ∨ SqT K H p (ys.map V.str)) ∧ (ys.map (·.length)).sum + ys.length * a.length ≤ 16777216 ∧ Q (.str (Txt.join a ys)) H
  | _, _ => False
theorem pe_joinK (K : PySem.W.Frag) {apos pos : Pos} (ho : PE X o to) (he : PE X e te) (hK : X.K = K := by rfl) (hs : starEach [e] X.env = [(false, eval e X.env)] := by rfl) (hbase : attributeBase o "join" X.env (eval o X.env) = eval o X.env := by rfl) (hline : (apos.endLine == pos.line) = true := by rfl) :
    PE X (.Call (.Attribute o "join" apos) [e] [] pos) (tM1 (rJoinZ K) to te) := by
  subst hK
  refine pe_m1 F.slot_str_join F.type_str_join (mtImp mt_join fun x xs H Q h => ?_) ho he hs hbase hline
  unfold rJoinZ at h
  split at h
  · obtain ⟨ys, h⟩ := h
    exact ⟨_, _, ys, rfl, rfl, h⟩
  · exact h.elim
theorem joinI {K : PySem.W.Frag} {H : Hp} {Q : VK} {a : Str} {p : Addr} {ys : List Str} (h : SqL K H p (ys.map V.str)) (z : (ys.map (·.length)).sum + ys.length * a.length ≤ 16777216) (q : Q (.str (Txt.join a ys)) H) : rJoinZ K (.str a) [.ref p] H Q := ⟨ys, .inl h, z, q⟩
end
theorem joinL_nil : ∀ ys : List (List Nat), TL.joinL [] ys = ys.flatten
  | [] => rfl
  | [p] => by simp [TL.joinL]
  | p :: q :: r => by
    show p ++ ([] ++ TL.joinL [] (q :: r)) = p ++ (q :: r).flatten
    rw [joinL_nil (q :: r), List.nil_append]
theorem join_0 (ys : List (List Nat)) : Txt.join "" (ys.map SX.S) = SX.S ys.flatten := by
  have e : ("" : Str) = SX.S [] := by decide
  rw [e, SX.join_S, joinL_nil]
theorem join_1s (cs : List Nat) : Txt.join "" (cs.map one) = SX.S cs := by
  have e : cs.map one = (cs.map fun c => [c]).map SX.S := by
    rw [List.map_map]
    rfl
  rw [e, join_0]
  have z : (cs.map fun c => [c]).flatten = cs := by
    clear e
    induction cs with
    | nil => rfl
    | cons c cs ih => simpa using ih
  rw [z]
theorem sum_ones (cs : List Nat) : ((cs.map one).map (·.length)).sum = cs.length := by
  induction cs with
  | nil => rfl
  | cons c cs ih =>
    simp only [List.map_cons, List.sum_cons, ih, List.length_cons]
    show 1 + cs.length = _
    omega
/-- items of one kind, as their list -/
theorem items_of {α : Type} {mk : α → V} {P : α → Prop} : ∀ {acc : List V}, (∀ y ∈ acc, ∃ c, y = mk c ∧ P c) → ∃ cs : List α, acc = cs.map mk ∧ ∀ c ∈ cs, P c
  | [], _ => ⟨[], rfl, fun _ m => nomatch m⟩
  | y :: acc, h => by
    obtain ⟨c, rfl, hc⟩ := h y List.mem_cons_self
    obtain ⟨cs, rfl, hcs⟩ := items_of fun z m => h z (List.mem_cons_of_mem _ m)
    refine ⟨c :: cs, rfl, fun d m => ?_⟩
    rcases List.mem_cons.mp m with rfl | m
    · exact hc
    · exact hcs d m
theorem ixS {K : PySem.W.Frag} {H : Hp} {Q : VK} {z : Str} {j : Nat} (hz : z.length ≤ sizeLine) (h : j < z.length) (q : ∀ c, c ∈ z.cps.toList → Q (.str (one c)) H) : rIxZ K (.str z) (.int (j : Int)) H Q := by
  have h2 : j < z.cps.toList.length := by simpa [Str.length] using h
  exact ⟨j, _, rfl, hz, atI_nat (List.getElem?_eq_getElem h2), q _ (List.getElem_mem h2)⟩
theorem mem_of_get {acc : List V} {P : V → Prop} (h : ∀ (i : Nat) y, acc[i]? = some y → P y) : ∀ y ∈ acc, P y := fun y m => by
  obtain ⟨i, hi⟩ := List.getElem?_of_mem m
  exact h i y hi
/-! ### ifs that only look -/
section
variable {c c1 c2 : TT} {a b : TS} {D : Ends} {σ : L2.St} {H : Hp} {b1 b2 : Bool}
theorem ifS_at (b1 : Bool) (h1 : ∀ R : Bool → Hp → Prop, R b1 H → c σ H R) (ha : b1 = true → a D σ H) (hb : b1 = false → b D σ H) : tIfS c a b D σ H := by
  refine h1 _ ?_
  cases b1 with
  | true => rw [if_pos rfl]; exact ha rfl
  | false => rw [if_neg Bool.false_ne_true]; exact hb rfl
theorem ifS_and (b1 b2 : Bool) (h1 : ∀ R : Bool → Hp → Prop, R b1 H → c1 σ H R) (h2 : b1 = true → ∀ R : Bool → Hp → Prop, R b2 H → c2 σ H R) (ha : b1 = true → b2 = true → a D σ H) (hb : b D σ H) : tIfS (tAnd c1 c2) a b D σ H := by
  refine h1 _ ?_
  cases b1 with
  | true =>
    rw [if_pos rfl]
    refine h2 rfl _ ?_
    cases b2 with
    | true => rw [if_pos rfl]; exact ha rfl rfl
    | false => rw [if_neg Bool.false_ne_true]; exact hb
  | false =>
    rw [if_neg Bool.false_ne_true]
    show if false = true then _ else _
    rw [if_neg Bool.false_ne_true]
    exact hb
end
section
variable {K : PySem.W.Frag} {H : Hp} {Q : VK} {p q : Addr} {xs ys : List V}
theorem catL (h1 : H p = some (.lst xs)) (h2 : H q = some (.lst ys)) (z : xs.length + ys.length ≤ 100000) (k : ∀ r, H r = none → Q (.ref r) (upd H r (.lst (xs ++ ys)))) : rAddZ (.ref p) (.ref q) H Q := ⟨xs, ys, h1, h2, line5 z, k⟩
end
/-! ### texts of few codes -/
/-- a text of a law's own signs: few codes -/
def okT (x : Str) : Bool := x.cps.toList.all fun c => decide (c < 128)
theorem okT_S {l : List Nat} (h : ∀ c ∈ l, c < 128) : okT (SX.S l) = true := List.all_eq_true.mpr fun c m => decide_eq_true (h c (by simpa using m))
theorem okT_mem {x : Str} (h : okT x = true) {c : Nat} (m : c ∈ x.cps.toList) : c < 128 := of_decide_eq_true (List.all_eq_true.mp h c m)
theorem okT_okS {x : Str} (h : okT x = true) : okS x = true := List.all_eq_true.mpr fun c m => decide_eq_true (Nat.lt_trans (okT_mem h m) (by decide))
theorem str_len (x : Str) : x.cps.toList.length = x.length := by simp [Str.length]
theorem okT_cat {x y : Str} (hx : okT x = true) (hy : okT y = true) : okT (x ++ y) = true := by
  have e : x ++ y = SX.S (x.cps.toList ++ y.cps.toList) := by
    rw [← SX.S_cat, SX.S_tl, SX.S_tl]
  rw [e]
  refine okT_S fun c m => ?_
  rcases List.mem_append.mp m with m | m
  · exact okT_mem hx m
  · exact okT_mem hy m
theorem lenCat (x y : Str) : (x ++ y).length = x.length + y.length := by
  have e : x ++ y = SX.S (x.cps.toList ++ y.cps.toList) := by
    rw [← SX.S_cat, SX.S_tl, SX.S_tl]
  rw [e, SX.S_len, List.length_append, str_len, str_len]
theorem to_S (x : Str) {i : Int} (h : 0 ≤ i) : Txt.slice x none (some i) = SX.S (x.cps.toList.take i.toNat) := by
  have z := SX.slice_to (a := x.cps.toList) h
  rwa [SX.S_tl] at z
theorem from_S (x : Str) {i : Int} (h : 0 ≤ i) : Txt.slice x (some i) none = SX.S (x.cps.toList.drop i.toNat) := by
  have z := SX.slice_from (a := x.cps.toList) h
  rwa [SX.S_tl] at z
theorem okT_to {x : Str} (hx : okT x = true) {i : Int} (h : 0 ≤ i) : okT (Txt.slice x none (some i)) = true := by
  rw [to_S x h]
  exact okT_S fun c m => okT_mem hx (List.mem_of_mem_take m)
theorem okT_from {x : Str} (hx : okT x = true) {i : Int} (h : 0 ≤ i) : okT (Txt.slice x (some i) none) = true := by
  rw [from_S x h]
  exact okT_S fun c m => okT_mem hx (List.mem_of_mem_drop m)
theorem len_to (x : Str) {i : Int} (h : 0 ≤ i) : (Txt.slice x none (some i)).length = min i.toNat x.length := by
  rw [to_S x h, SX.S_len, List.length_take, str_len]
theorem len_from (x : Str) {i : Int} (h : 0 ≤ i) : (Txt.slice x (some i) none).length = x.length - i.toNat := by
  rw [from_S x h, SX.S_len, List.length_drop, str_len]
theorem Wd.one {K : PySem.W.Frag} {ω : Bg} {H : Hp} (g : Bag K H ω) : Wd K (fun q => decide (q = ω.b)) ω H := ⟨g, decide_eq_true rfl, fun a z e => by
  obtain ⟨o, h⟩ := g.some
  rw [of_decide_eq_true z, h] at e
  cases e⟩
theorem off_one {ω : Bg} {p : Addr} (h : p ≠ ω.b) : (fun q => decide (q = ω.b)) p = false := decide_eq_false h
/-! ### dicts and lists that are shown -/
theorem nice_dic0 (R n : Nat) : Nice R (n + 1) (.dict []) := ⟨by simp only [PyData.showable, PyData.showableKv], by simp only [PyData.leavesShort, PyData.leavesShortKv], by simp only [PyData.weight, PyData.weightKv]; omega, by simp only [PyData.depth, PyData.depthKv]; omega, fun z => by simp [PyData.hasDict] at z⟩
theorem nice_dic1 {R R' n : Nat} {k : Str} {d : PyData} (hk : Nice R n (.str k)) (h : Nice R n d) (e : 2 * R + 2 ≤ R') : Nice R' (n + 1) (.dict [(.str k, d)]) := by
  obtain ⟨a1, a2, a3, a4, _⟩ := hk
  obtain ⟨b1, b2, b3, b4, _⟩ := h
  refine ⟨by simp only [PyData.showable, PyData.showableKv, a1, b1, Bool.and_self] at *, ?_, ?_, ?_, fun z => by simp [PyData.hasDict] at z⟩
  · simp only [PyData.leavesShort, PyData.leavesShortKv, b2, Bool.and_true]
    simpa only [PyData.leavesShort] using a2
  · simp only [PyData.weight, PyData.weightKv] at *
    omega
  · simp only [PyData.depth, PyData.depthKv] at *
    omega
/-- what a for asks, folded -/
def ForAsk (J : It) (g : TG) (tb : TS) (D : Ends) (σ : L2.St) (H : Hp) : Prop := ∃ W : Nat → Nat → L2.St → Hp → Prop, (∃ m, W 0 m σ H) ∧ ∀ i m σ H, W i m σ H →
  (J.stop i H ∧ D.nx σ H) ∨ (J.go i H ∧ ∃ N : L2.St → Hp → Prop, (∀ σ' H', N σ' H' → ∃ m', m' < m ∧ W (i + 1) m' σ' H') ∧ ∀ x H', J.yld i H x H' → g x σ H' fun σ2 H2 => tb { D with nx := N, ct := N, bk := D.nx } σ2 H2)
theorem for_rng {ta : TA} {g : TG} {tb : TS} {D : Ends} {σ : L2.St} {H : Hp} (h : ta σ H fun vs H1 => ∃ j : Int, vs = [.int j] ∧ -(2 ^ 62) ≤ j ∧ j < 2 ^ 62 ∧ ForAsk (Itr 0 j.toNat) g tb D σ H1) : tFor (iRng1 ta) g tb D σ H := h
theorem for_lst {K : PySem.W.Frag} {tl : TE} {g : TG} {tb : TS} {D : Ends} {σ : L2.St} {H : Hp} (h : tl σ H fun x H1 => ∃ p, x = .ref p ∧ (∃ xs, SqL K H1 p xs) ∧ ForAsk (Itl K p) g tb D σ H1) : tFor (iList K tl) g tb D σ H := h
end Z

set_option maxRecDepth 100000
set_option maxHeartbeats 4000000
namespace Z
open PySem PySem.Spec PySem.Builtin PySem.Builtin.Str PyProof.Rows L2
/-! ### enumerate(a tuple), enumerate(a text) -/
/-- n items, each with its place in a new pair -/
def JG (n : Nat) (Y : Nat → V → Prop) (G : Hp → Prop) : It :=
  ⟨fun i H => G H ∧ i < n, fun i H v H' => ∃ T x, v = .ref T ∧ H T = none ∧ H' = upd H T (.tup [.int (i : Nat), x]) ∧ Y i x, fun i H => G H ∧ n ≤ i⟩
theorem turn_enumG {P : Program} {w : World} {K : PySem.W.Frag} {elts : List Expr} {kk : Nat} {tpos : Pos} {titer : Nat → Heap → Prop} {n : Nat} {Y : Nat → V → Prop} {G : Hp → Prop} {e it : Addr}
    (hk : ∀ i h h', titer i h → (∀ o, h.get? it = some o → h'.get? it = some o) → titer i h')
    (ho : ∀ i h, titer i h → ∃ o, h.get? it = some o ∧ ∀ v, o.data ≠ .cell v)
    (hD : ∀ (X : Cx) (pins : List (Addr × Obj)) (σ : L2.St) (H : Hp) (s : Shared), X.prog = P → X.w = w → X.K = K → X.calm = true → Inv X pins σ H s → G H → ∃ (fp2 : List Addr) (Pv : Nat → Value → Prop) (St : Nat → Heap → Prop),
      Draws P w X.A.in1 it fp2 n Pv St ∧ (∀ i, titer i s.heap → St i s.heap) ∧ (∀ i h, St i h → titer i h) ∧ e ∉ fp2 ∧ ∀ i u, Pv i u → ∃ x, RelV x u ∧ Y i x) :
    Turn P w K (.Tuple elts kk tpos) (JG n Y G) [e, it] e (fun i h => (∃ old, IsEnum h e it ((i : Nat) : Int) old) ∧ titer i h ∧ e ≠ it ∧ i ≤ n) where
  mem := by simp
  obj := fun i h st b hb => by
    obtain ⟨⟨old, he⟩, ti, _, _⟩ := st
    have e' : b = e ∨ b = it := by simpa using hb
    rcases e' with z | z
    · rw [z]; exact ⟨_, he, fun v q => nomatch q⟩
    · rw [z]; exact ho i h ti
  keep := fun i h h' st k => let ⟨⟨old, he⟩, hi, hne, hle⟩ := st; ⟨⟨old, k e (by simp) _ he⟩, hk i h h' hi fun o q => k it (by simp) o q, hne, hle⟩
  item := by
    intro X hP hw hK hc i pins s σ H E I hf st hg
    obtain ⟨⟨old, he⟩, hit, hne, _⟩ := st
    obtain ⟨hG, hlt⟩ := hg
    obtain ⟨fp2, Pv, St, D, d1, d2, d3, d4⟩ := hD X pins σ H s hP hw hK hc I hG
    subst hP hw hK
    have hel : e < s.heap.objs.size := Heap.lt_size he
    have hil : it < s.heap.objs.size := by obtain ⟨o, q, _⟩ := ho i _ hit; exact Heap.lt_size q
    refine wpAny_pyNext_enum_itemD D he (d1 i hit) hlt hne d3 fun u h' tk hPu ho' hst' hT hsz hk' => ?_
    obtain ⟨x, ru, hY⟩ := d4 i u hPu
    refine ⟨_, rfl, wpAny_letOwnedTupleGo_enum (s := { s with heap := h', toks := tk + 1 }) ho' fun h'' he' sb => ?_⟩
    have hT2 : h''.get? s.heap.objs.size = some { cls := .type "tuple", data := .seq #[.int i tk, u] } := (sb.2 _ (Nat.ne_of_gt hel)).trans hT
    have new : ObjOk X.prog X.w (upd H s.heap.objs.size (.tup [.int (i : Nat), x])) h'' s.heap.objs.size (.tup [.int (i : Nat), x]) :=
      ⟨by show 2 ≤ sizeLine; decide, [.int i tk, u], .cons ⟨_, rfl⟩ (.cons ru .nil), ⟨_, hT2, rfl, _, rfl⟩⟩
    have I1 : Inv X pins σ (upd H s.heap.objs.size (.tup [.int (i : Nat), x])) { s with heap := h'', toks := tk + 1 } :=
      I.turnedNew (ch := [e, it]) (fun b ob hb q => (sb.2 b (fun z => hb (by simp [z]))).trans (hk' b ob (fun z => hb (by simp [z])) (fun z => hb (by simp [z])) q)) hf (Nat.le_refl _) new
    refine ⟨.ref s.heap.objs.size, _, I1, rfl, ⟨_, x, rfl, I.hok.fresh (Nat.le_refl _), rfl, hY⟩, ⟨⟨u, ?_⟩, hk (i + 1) h' h'' (d2 _ _ hst') (fun o q => (sb.2 it (Ne.symm hne)).trans q), hne, hlt⟩, fun b hb => ?_⟩
    · have e1 : ((i + 1 : Nat) : Int) = (i : Int) + 1 := by omega
      rw [e1]; exact he'
    · have hb' : b < s.heap.objs.size := by
        have e' : b = e ∨ b = it := by simpa using hb
        rcases e' with z | z
        · rw [z]; exact hel
        · rw [z]; exact hil
      rw [upd_ne (Nat.ne_of_lt hb')]
      exact (hf b hb).1
  done := by
    intro X hP hw hK hc i pins s σ H E I hf st hg
    obtain ⟨⟨old, he⟩, hit, hne, hle⟩ := st
    obtain ⟨hG, hge⟩ := hg
    obtain ⟨fp2, Pv, St, D, d1, d2, d3, d4⟩ := hD X pins σ H s hP hw hK hc I hG
    have e1 : i = n := Nat.le_antisymm hle hge
    subst e1
    subst hP hw hK
    obtain ⟨f0, f1, f2, f3, f4, f5⟩ := hf it (by simp)
    exact wpAny_pyNext_enum_endD D he (d1 i hit) fun h' eb => ⟨rfl, I.turned (t' := s.toks) (fun b o hb q => eb b o hb q) f0 f1 f3 f4 f5⟩
  self := fun A i s Q E st h => let ⟨⟨_, he⟩, _⟩ := st; wpAny_pyIter_enum he h
/-- over a text -/
def iEnumS (ta : TA) : TI := fun σ H R => ta σ H fun vs H1 => ∃ z : Str, vs = [.str z] ∧ R (JG z.length (fun i x => (signsV z)[i]? = some x) fun _ => True) H1
theorem fp_two {X : Cx} {pins : List (Addr × Obj)} {σ : L2.St} {H : Hp} {s : Shared} (I : Inv X pins σ H s) : ∀ b ∈ [s.heap.objs.size + 1, s.heap.objs.size], FpOk X pins H b := fun b hb => by
  have e' : b = s.heap.objs.size + 1 ∨ b = s.heap.objs.size := by simpa using hb
  have hle : s.heap.objs.size ≤ b := by
    rcases e' with z | z
    · rw [z]; exact Nat.le_add_right _ _
    · rw [z]; exact Nat.le_refl _
  exact I.fpOk hle (I.hok.fresh hle)
theorem pi_enumS {X : Cx} {e : Expr} {ta : TA} {p pos tpos : Pos} {elts : List Expr} {kk : Nat} (hg : Gl X "enumerate") (hm : X.mg "enumerate" = none) (ha : PA X [e] ta) (hs : starEach [e] X.env = [(false, eval e X.env)] := by rfl) :
    PI X (.Tuple elts kk tpos) (.Call (.Name "enumerate" p) [e] [] pos) (iEnumS ta) := by
  refine ⟨fun pins s σ H R I h => ?_⟩
  refine Call_ (ld_blt I hg hm boot_enumerate (PyProof.Rows.callWith_type1 (thn (ha.run pos pins s σ H _ I h) fun us s1 ⟨vs, H1, I1, r1, q1⟩ => ?_) hs rfl))
  obtain ⟨z, ex, q⟩ := q1
  subst ex
  cases r1 with
  | cons r rr =>
    cases rr
    obtain ⟨t, rfl⟩ := r
    refine call_enumerate_str fun h' he hit hsz hk => wpAny_pyIter_enum he ?_
    have I2 : Inv X pins σ H1 { s1 with heap := h' } := I1.kept (t' := s1.toks) hk
    refine ⟨s1.heap.objs.size + 1, [s1.heap.objs.size + 1, s1.heap.objs.size], _, _, H1, rfl, I2, turn_enumG (titer := fun i h => h.IsStrIter s1.heap.objs.size (strIterType z) z t i) ?_ ?_ ?_, ⟨⟨.none, he⟩, hit, Nat.succ_ne_self _, Nat.zero_le _⟩, fp_two I1, q⟩
    · exact fun i h h' ⟨o, a, b⟩ k => ⟨o, k o a, b⟩
    · exact fun i h ⟨o, a, b, d⟩ => ⟨o, a, fun v q => by rw [d] at q; cases q⟩
    · intro X' pins' σ' H' s' _ _ _ hc I' _
      refine ⟨[s1.heap.objs.size], _, _, Draws.text (A := X'.A.in1) (I'.ok.hd hc) s1.heap.objs.size z t, fun i h => h, fun i h x => x, by simp, ?_⟩
      rintro i u ⟨c, v, hcc, rfl⟩
      refine ⟨.str ⟨#[c]⟩, ⟨_, rfl⟩, ?_⟩
      unfold signsV
      rw [List.getElem?_map, Array.getElem?_toList, hcc]
      rfl
/-- over a tuple -/
def iEnumT (K : PySem.W.Frag) (ta : TA) : TI := fun σ H R => ta σ H fun vs H1 => ∃ a xs, vs = [.ref a] ∧ SqT K H1 a xs ∧ R (JG xs.length (fun i x => xs[i]? = some x) fun H => SqT K H a xs) H1
theorem meets_enum1 {v : Value} {o : Obj} {H : Heap → Prop} (B : Begins v o H) :
    Meets (Builtin.«enumerate.__new__» ⟨[.type "enumerate", v], []⟩) (fun _ R s => H s.heap ∧
      R (.ok (.ret (.ref (s.heap.push o).objs.size))) { s with heap := (s.heap.push o).push { cls := .type "enumerate", data := .fields #[.none, .bool false, .ref s.heap.objs.size, rawInt 0, .none, .none] } }) :=
  .of_wp fun prog w A R s h => by
    obtain ⟨hp, g, d, tk, os⟩ := s; obtain ⟨h1, h⟩ := h
    have hsub := sub_enumerate
    have q1 : ∀ {A' : Around} {E : Value → Shared → Prop} {Q : Value → Shared → Prop}, Q (.ref hp.objs.size) ⟨hp.push o, g, d, tk, os⟩ → wpAny (model prog w) A' (pyIter v) Q E ⟨hp, g, d, tk, os⟩ :=
      fun q => B.iter prog w _ _ ⟨hp, g, d, tk, os⟩ _ h1 q
    wp_walk using q1
    refine wpAny_stack_any fun st => wpAny_pure ?_
    split
    · rename_i c _ _ _ _ _
      cases (c == Value.type "enumerate")
      · wp_walk using q1
        exact ⟨_, rfl, h⟩
      · wp_walk using q1
        exact ⟨_, rfl, h⟩
    · wp_walk using q1
      exact ⟨_, rfl, h⟩
theorem call_enum1 {prog : Program} {w : World} {A : Around} {E : Value → Shared → Prop} {s : Shared} {v : Value} {o : Obj} {H : Heap → Prop} {Q : Value → Shared → Prop} (B : Begins v o H) (h1 : H s.heap)
    (h : ∀ h', IsEnum h' (s.heap.objs.size + 1) s.heap.objs.size 0 .none → h'.get? s.heap.objs.size = some o → h'.objs.size = s.heap.objs.size + 2 →
      (∀ b o, s.heap.get? b = some o → h'.get? b = some o) → Q (.ref (s.heap.objs.size + 1)) { s with heap := h' }) :
    wpAny (model prog w) A (call (.type "enumerate") [v]) Q E s := by
  refine callType_new F.called_enumerate (by decide) (F.typeCall_enumerate_1 _) (F.newCall_enumerate_1 _) (fun obj => F.args_object_init_2 obj _) F.entry_enumerate_new
    (meets_enum1 B) ⟨h1, ?_⟩
  have hz : (s.heap.push o).objs.size = s.heap.objs.size + 1 := Heap.size_push ..
  show _ ∧ _
  rw [hz]
  have he : IsEnum ((s.heap.push o).push { cls := .type "enumerate", data := .fields #[.none, .bool false, .ref s.heap.objs.size, rawInt 0, .none, .none] }) (s.heap.objs.size + 1) s.heap.objs.size 0 .none := by
    have := Heap.get?_push_size (s.heap.push o) (o := { cls := .type "enumerate", data := .fields #[.none, .bool false, .ref s.heap.objs.size, rawInt 0, .none, .none] }) rfl
    rw [hz] at this; exact this
  refine ⟨⟨_, he, rfl⟩, h _ he (Heap.get?_push_of_some _ (Heap.get?_push_size _ B.free)) (by rw [Heap.size_push, hz]) fun b o x => Heap.get?_push_of_some _ (Heap.get?_push_of_some _ x)⟩
theorem pi_enumT {X : Cx} {e : Expr} {ta : TA} {p pos tpos : Pos} {elts : List Expr} {kk : Nat} (hg : Gl X "enumerate") (hm : X.mg "enumerate" = none) (ha : PA X [e] ta) (hs : starEach [e] X.env = [(false, eval e X.env)] := by rfl) :
    PI X (.Tuple elts kk tpos) (.Call (.Name "enumerate" p) [e] [] pos) (iEnumT X.K ta) := by
  refine ⟨fun pins s σ H R I h => ?_⟩
  refine Call_ (ld_blt I hg hm boot_enumerate (PyProof.Rows.callWith_type1 (thn (ha.run pos pins s σ H _ I h) fun us s1 ⟨vs, H1, I1, r1, q1⟩ => ?_) hs rfl))
  obtain ⟨a, xs, ex, hq, q⟩ := q1
  subst ex
  cases r1 with
  | cons r rr =>
    cases rr
    cases r
    obtain ⟨its, rv, p', hz⟩ := I1.tuple hq
    have hal : a < s1.heap.objs.size := by obtain ⟨_, e, _⟩ := p'; exact Heap.lt_size e
    refine call_enum1 (begins_tuple a its.toArray) p' fun h' he hit hsz hk => wpAny_pyIter_enum he ?_
    have I2 : Inv X pins σ H1 { s1 with heap := h' } := I1.kept (t' := s1.toks) hk
    refine ⟨s1.heap.objs.size + 1, [s1.heap.objs.size + 1, s1.heap.objs.size], _, _, H1, rfl, I2, turn_enumG (titer := fun i h => h.IsTupleIter s1.heap.objs.size a i) ?_ ?_ ?_, ⟨⟨.none, he⟩, ⟨_, hit, rfl, rfl⟩, Nat.succ_ne_self _, Nat.zero_le _⟩, fp_two I1, q⟩
    · exact fun i h h' t k => t.at k
    · exact fun i h ⟨o, a, b, d⟩ => ⟨o, a, fun v q => by rw [d] at q; cases q⟩
    · intro X' pins' σ' H' s' _ _ hK hc I' hG
      rw [← hK] at hG
      obtain ⟨its', rv', p2, _⟩ := I'.tuple hG
      have hl := rv'.length
      have D := Draws.tuple (prog := X.prog) (w := X.w) (A := X'.A.in1) (I'.ok.hd hc) s1.heap.objs.size a (Nat.ne_of_lt hal) its'.toArray
      have e1 : its'.toArray.size = xs.length := by rw [List.size_toArray, hl]
      rw [e1] at D
      refine ⟨_, _, _, D, fun i h => ⟨h, p2⟩, fun i h x => x.1, ?_, ?_⟩
      · intro hm
        have e' : s1.heap.objs.size + 1 = s1.heap.objs.size ∨ s1.heap.objs.size + 1 = a := by simpa using hm
        rcases e' with e' | e'
        · exact Nat.succ_ne_self _ e'
        · rw [← e'] at hal
          exact Nat.lt_irrefl _ (Nat.lt_trans (Nat.lt_succ_self _) hal)
      · intro i u hu
        have hu' : its'[i]? = some u := by simpa using hu
        have hi : i < its'.length := (List.getElem?_eq_some_iff.mp hu').1
        have hx : xs[i]? = some xs[i] := List.getElem?_eq_getElem (by omega)
        obtain ⟨u2, h2, r2⟩ := rv'.get hx
        rw [hu'] at h2
        cases h2
        exact ⟨_, r2, hx⟩
/-! ### what is never reached -/
theorem ps_noway {X : Cx} {st : Stmt} : PS X st (fun _ _ _ => False) := ⟨fun _ _ _ _ _ _ h => h.elim⟩
theorem pe_noway {X : Cx} {e : Expr} : PE X e (fun _ _ _ => False) := ⟨fun _ _ _ _ _ _ h => h.elim⟩
/-! ### items with their places, walked -/
theorem walk_G {n : Nat} {Y : Nat → V → Prop} {G : Hp → Prop} : Walk (JG n Y G) n G (fun i H v H' => ∃ T x, v = .ref T ∧ H T = none ∧ H' = upd H T (.tup [.int (i : Nat), x]) ∧ Y i x) :=
  ⟨fun _ _ hi q => ⟨q, hi⟩, fun _ q => ⟨q, Nat.le_refl _⟩, fun _ _ _ _ _ _ y => y⟩
theorem for_G {n : Nat} {Y : Nat → V → Prop} {G : Hp → Prop} {g : TG} {tb : TS} {D : Ends} {σ : L2.St} {H : Hp} (Pv : Nat → L2.St → Hp → Prop) (h0 : Pv 0 σ H) (hG : ∀ i σ H, i ≤ n → Pv i σ H → G H)
    (hs : ∀ i σ H T x, i < n → Pv i σ H → H T = none → Y i x → g (.ref T) σ (upd H T (.tup [.int (i : Nat), x])) fun σ2 H2 => tb { D with nx := Pv (i + 1), ct := Pv (i + 1), bk := D.nx } σ2 H2) (hd : ∀ σ H, Pv n σ H → D.nx σ H) :
    ForAsk (JG n Y G) g tb D σ H := by
  refine ⟨fun i m σ H => m = n - i ∧ i ≤ n ∧ Pv i σ H, ⟨n, by simp, Nat.zero_le _, h0⟩, ?_⟩
  rintro i m σ H ⟨rfl, hi, p⟩
  have q := hG i σ H hi p
  by_cases hlt : i < n
  · refine .inr ⟨⟨q, hlt⟩, Pv (i + 1), fun σ' H' p' => ⟨n - (i + 1), by omega, rfl, hlt, p'⟩, fun v H' y => ?_⟩
    obtain ⟨T, x, rfl, hT, rfl, hy⟩ := y
    exact hs i σ H T x hlt p hT hy
  · have e : i = n := by omega
    subst e
    exact .inl ⟨⟨q, Nat.le_refl _⟩, hd σ H p⟩
/-! ### defs with a star -/
structure Cr (P : Program) (w : World) (K : PySem.W.Frag) (mg : Str → Option Value) (base : Heap) (CX : CXT) (k : Nat) (x : Str) (sp : Sp) : Prop where
  ex : ∃ (f : Addr), FnR P w K mg base CX k f sp ∧ mg x = some (.ref f) ∧ PySem.W.keepIn K (.ref f) = true
def tCallR (sp : Sp) (E : XK) (t : TA) : TE := fun σ H Q => t σ H fun vs H1 => sp vs H1 Q E
theorem pe_cr {X : Cx} {k j : Nat} {x : Str} {sp : Sp} {CX : CXT} {E : XK} {p pos : Pos} {e : Expr} {es : List Expr} {t : TA} (c : Cr X.prog X.w X.K X.mg X.base CX k x sp) (hr : Room j X.A) (hk : k ≤ j) (hg : Gl X x) (hx : Passes CX X E) (ha : PA X (e :: es) t)
    (hdb : (x == ("__debug__" : Str)) = false := by decide) (he : starEach (e :: es) X.env = (false, eval e X.env) :: starEach es X.env := by rfl) (hpl : (backTo pos (starEach es X.env)).any (·.1) = false := by rfl) :
    PE X (.Call (.Name x p) (e :: es) [] pos) (tCallR sp E t) := by
  obtain ⟨f, F, hm, kp⟩ := c.ex
  refine ⟨fun pins s σ H Q I h => ?_⟩
  refine wpAny_Call_Name_kw (ld_glob I hg hm ?_ hdb)
  exact PySem.W.callWith_K (h₀ := X.base) I.ok.mod.kin kp (thn (ha.run pos pins s σ H _ I h) fun us s1 ⟨vs, H1, I1, r, q⟩ => ⟨I1.kIn, wpAny_call (run_fnR (F.mono hk) hr hx I1 r q)⟩) he hpl
/-- def f( *v): what is handed in is a new tuple -/
theorem star0 {CX : CXT} {P : Program} {w : World} {K : PySem.W.Frag} {mg : Str → Option Value} {base : Heap} {k : Nat} {f : Addr} {fd : FuncData} {name qual : Str} {params : Arguments} {body : List Stmt} {scope : Scope} {N : List Str} {pv : Str} {sp : Sp}
    (F : FunD K name qual params body scope [] [] f fd) (S : FnScope N [pv] scope) (hCX : StX.CXUp CX)
    (hB : ∀ (kV doc pm : Value) (an : Option Addr) (cdv ct : Value) (rest : List Value), bindArgs (PySem.W.fnOf name qual params body scope .none kV doc pm an cdv ct) ⟨rest, []⟩ = (newTuple rest >>= fun t => pure [(pv, t)]))
    (hb : ∀ (cdv : Value) (A : Around) (outer : List Env) (s : Shared) (H : Hp) (vs : List V) (Q : VK) (E : XK), Room k (A.deeper (envOfC qual scope s.heap.objs.size f cdv)) → sp vs H Q E →
      ∃ t, PSs (cxOf CX P w K mg base N qual scope f cdv A outer s H E) body t ∧ t { nx := fun _ H' => Q .non H', rt := Q } (start N vs) H) :
    FnR P w K mg base CX (k + 1) f (fun vs H Q E => vs.length ≤ sizeLine ∧ ∀ p, H p = Option.none → sp [V.ref p] (upd H p (.tup vs)) Q E) := by
  obtain ⟨oc, od, dV, kV, doc, pm, an, cdv, ct, osl, rfl, lk, hcd, hD, _⟩ := F.ex
  have hdV : dV = .none := by
    rcases hD with ⟨_, e⟩ | ⟨e, _⟩
    · exact e
    · exact absurd rfl e
  subst hdV
  refine FnR.imp (StX.fn_star (ps := []) (pv := pv) lk hcd S hCX ?_ (hb cdv)) ?_
  · intro us rest hl
    cases us with
    | nil => exact hB kV doc pm an cdv ct rest
    | cons a us => cases hl
  · rintro vs H Q E ⟨h1, h2⟩
    exact ⟨[], vs, rfl, rfl, h1, h2⟩
theorem for_enT {K : PySem.W.Frag} {ta : TA} {g : TG} {tb : TS} {D : Ends} {σ : L2.St} {H : Hp} (h : ta σ H fun vs H1 => ∃ a xs, vs = [.ref a] ∧ SqT K H1 a xs ∧ ForAsk (JG xs.length (fun i x => xs[i]? = some x) fun H => SqT K H a xs) g tb D σ H1) : tFor (iEnumT K ta) g tb D σ H := h
theorem gpair {K : PySem.W.Frag} {n : Nat} {i j : Nat} {T : Addr} {x y : V} {σ : L2.St} {H : Hp} {Q : L2.St → Hp → Prop} (hn : n = 2) (h : H T = some (.tup [x, y])) (q : Q ((σ.set i (some x)).set j (some y)) H) : gTup K n (gCons (gName i) (gCons (gName j) gNil)) (.ref T) σ H Q :=
  ⟨T, [x, y], rfl, st_of h, hn.symm, x, [y], rfl, y, [], rfl, rfl, q⟩
theorem pg_tupK {X : Cx} {es : List Expr} {kk : Nat} {pos : Pos} {t : TGs} (K : PySem.W.Frag) (n : Nat) (h : PGs X es t) (hK : X.K = K := by rfl) (hc : X.calm = true := by rfl)
    (hn : (assignEach es X.env).length = n := by rfl) (hst : (assignEach es X.env).findIdx? (·.1) = none := by rfl) : PG X (.Tuple es kk pos) (gTup K n t) := by
  subst hK
  exact pg_tup hc h hn hst
theorem pi_enumK {X : Cx} {e : Expr} {ta : TA} {p pos tpos : Pos} {elts : List Expr} {kk : Nat} (K : PySem.W.Frag) (hg : Gl X "enumerate") (hm : X.mg "enumerate" = none) (ha : PA X [e] ta) (hK : X.K = K := by rfl) (hs : starEach [e] X.env = [(false, eval e X.env)] := by rfl) :
    PI X (.Tuple elts kk tpos) (.Call (.Name "enumerate" p) [e] [] pos) (iEnum K ta) := by
  subst hK
  exact pi_enum hg hm ha hs
/-! ### min, max of a list of ints -/
section
variable {X : Cx}
theorem call_minK (K : PySem.W.Frag) (hc : X.calm = true := by rfl) (hK : X.K = K := by rfl) : CallR X (.builtin "min") (rMin K) := by subst hK; exact cr_min hc
theorem call_maxK (K : PySem.W.Frag) (hc : X.calm = true := by rfl) (hK : X.K = K := by rfl) : CallR X (.builtin "max") (rMax K) := by subst hK; exact cr_max hc
end
section
variable {K : PySem.W.Frag} {H : Hp} {Q : VK} {a : Addr} {ns : List Int} {n : Int}
theorem minI (h : SqL K H a (ns.map V.int)) (hm : n ∈ ns) (hl : ∀ y ∈ ns, n ≤ y) (q : Q (.int n) H) : rMin K [.ref a] H Q := ⟨a, ns, rfl, h, List.length_pos_of_mem hm, fun m m1 m2 => by
  have e : m = n := Int.le_antisymm (m2 n hm) (hl m m1)
  rw [e]
  exact q⟩
theorem maxI (h : SqL K H a (ns.map V.int)) (hm : n ∈ ns) (hl : ∀ y ∈ ns, y ≤ n) (q : Q (.int n) H) : rMax K [.ref a] H Q := ⟨a, ns, rfl, h, List.length_pos_of_mem hm, fun m m1 m2 => by
  have e : m = n := Int.le_antisymm (hl m m1) (m2 n hm)
  rw [e]
  exact q⟩
end
/-! ### cuts of texts at both ends, texts without their outer signs -/
theorem mid_S (x : Str) {i j : Nat} (h : i ≤ j) (h2 : j ≤ x.length) : Txt.slice x (some (i : Int)) (some (j : Int)) = SX.S ((x.cps.toList.drop i).take (j - i)) := by
  have z := beq_iff_eq.mp (PyProof.Rows.slice_closesL (x := x) (i := (i : Int)) (j := (j : Int)) (by omega) (by omega) (by omega))
  rw [z]
  have e1 : ((j : Int) - (i : Int)).toNat = j - i := by omega
  rw [Int.toNat_natCast, e1]
/-- the sign at k is no ground -/
def ng (z : Str) (k : Nat) : Prop := ∃ c, z.cps.toList[k]? = some c ∧ c ≠ 46
def goesG : Nat → Bool := (".": Str).cps.contains
theorem goesG_is (c : Nat) : goesG c = decide (c = 46) := by
  show (#[46] : Array Nat).contains c = _
  simp [eq_comm]
def loG (z : Str) : Nat := stripLo goesG true z
def hiG (z : Str) : Nat := stripHi goesG true z 0
theorem getD_ng {z : Str} {k : Nat} (h : k < z.length) : goesG (z.cps.getD k 0) = false ↔ ng z k := by
  have h2 : k < z.cps.toList.length := by rw [str_len]; exact h
  rw [← PyProof.Rows.getD_list, List.getD_eq_getElem?_getD, List.getElem?_eq_getElem h2, Option.getD_some, goesG_is]
  refine ⟨fun e => ⟨_, List.getElem?_eq_getElem h2, of_decide_eq_false e⟩, fun ⟨c, e1, e2⟩ => ?_⟩
  rw [List.getElem?_eq_getElem h2] at e1
  cases e1
  exact decide_eq_false e2
theorem ng_lt {z : Str} {k : Nat} (h : ng z k) : k < z.length := by
  obtain ⟨c, e, _⟩ := h
  have := (List.getElem?_eq_some_iff.mp e).1
  rwa [str_len] at this
theorem lo_spec (z : Str) : (∀ k, ng z k → loG z ≤ k) ∧ loG z ≤ z.length ∧ (loG z < z.length → ng z (loG z)) := by
  obtain ⟨h1, h2, h3⟩ := PyProof.Rows.lo_facts goesG z
  refine ⟨fun k hk => ?_, h1, fun h => ?_⟩
  · by_cases e : loG z ≤ k
    · exact e
    · have := h2 k (by unfold loG at e; omega)
      rw [(getD_ng (ng_lt hk)).mpr hk] at this
      cases this
  · rcases h3 with h3 | h3
    · unfold loG at h
      omega
    · exact (getD_ng h).mp h3
theorem hi_spec (z : Str) : (∀ k, ng z k → k < hiG z) ∧ hiG z ≤ z.length ∧ (0 < hiG z → ng z (hiG z - 1)) := by
  obtain ⟨_, h1, h2, h3⟩ := PyProof.Rows.hi_facts goesG z 0 (Nat.zero_le _)
  refine ⟨fun k hk => ?_, h1, fun h => ?_⟩
  · by_cases e : k < hiG z
    · exact e
    · have := h2 k (by unfold hiG at e; omega) (ng_lt hk)
      rw [(getD_ng (ng_lt hk)).mpr hk] at this
      cases this
  · rcases h3 with h3 | h3
    · unfold hiG at h
      omega
    · exact (getD_ng (by unfold hiG at h ⊢; omega)).mp h3
theorem sub_len (z : Str) (i j : Nat) (h : j ≤ z.length) : (strSub z i j).length = j - i := by
  have e := PyProof.Rows.strSub_mk z i j
  rw [e]
  show (SX.S _).length = _
  rw [SX.S_len, List.length_take, List.length_drop, str_len]
  omega
theorem lstrip_len (z : Str) : (Txt.lstripChars z ".").length = z.length - loG z := by
  show (Txt.stripBy goesG true false z).length = _
  rw [PyProof.Rows.stripBy_eq]
  exact sub_len z _ _ (Nat.le_refl _)
theorem rstrip_len (z : Str) : (Txt.rstripChars z ".").length = hiG z := by
  show (Txt.stripBy goesG false true z).length = _
  rw [PyProof.Rows.stripBy_eq]
  have := sub_len z 0 (hiG z) (hi_spec z).2.1
  rw [Nat.sub_zero] at this
  exact this
theorem strip_nil (z : Str) : Txt.stripChars z "." = "" ↔ ∀ k, ¬ ng z k := by
  have hl : (Txt.stripChars z ".").length = stripHi goesG true z (loG z) - loG z := by
    show (Txt.stripBy goesG true true z).length = _
    rw [PyProof.Rows.stripBy_eq]
    exact sub_len z _ _ (PyProof.Rows.hi_facts goesG z _ (PyProof.Rows.lo_facts goesG z).1).2.1
  obtain ⟨g1, g2, g3, g4⟩ := PyProof.Rows.hi_facts goesG z (loG z) (PyProof.Rows.lo_facts goesG z).1
  have el : ∀ x : Str, x = "" ↔ x.length = 0 := fun x => by
    refine ⟨fun e => by rw [e]; rfl, fun e => ?_⟩
    have : x.cps.toList = [] := List.eq_nil_of_length_eq_zero (by rw [str_len]; exact e)
    rw [← SX.S_tl x, this]
    rfl
  rw [el, hl]
  refine ⟨fun e k hk => ?_, fun e => ?_⟩
  · have h1 := (lo_spec z).1 k hk
    have h2 := g3 k (by omega) (ng_lt hk)
    rw [(getD_ng (ng_lt hk)).mpr hk] at h2
    cases h2
  · obtain ⟨_, l2, l3⟩ := lo_spec z
    by_cases h : loG z < z.length
    · exact absurd (l3 h) (e _)
    · omega
end Z

set_option maxRecDepth 100000
set_option maxHeartbeats 4000000
namespace Z
open PySem PySem.Spec PySem.Builtin PySem.Builtin.Str PyProof.Rows L2
/-! ### zip( *texts) -/
/-- the zip at z over the texts xs, each begun at i -/
structure Zn (h : Heap) (z TI TO : Addr) (its : List Addr) (xs : List (Str × Nat)) (i : Nat) : Prop where
  zip : ∃ f0 fl, h.get? z = some { cls := .type "zip", dict := none, data := .fields #[f0, .bool fl, .bool false, .ref TI, .ref TO], slots := #[] } ∧ (f0 = .none ∨ ∃ a : Addr, f0 = rawInt a)
  ti : h.get? TI = some { cls := .type "tuple", data := .seq (its.map Value.ref).toArray }
  to : ∃ os : List Value, os.length = its.length ∧ h.get? TO = some { cls := .type "tuple", data := .seq os.toArray }
  it : Paired (fun a (x : Str × Nat) => h.IsStrIter a (strIterType x.1) x.1 x.2 i) its xs
/-- they stand apart -/
structure Zs (z TI TO : Addr) (its : List Addr) : Prop where
  zTI : z ≠ TI
  zTO : z ≠ TO
  TIO : TI ≠ TO
  zi : z ∉ its
  Ti : TI ∉ its
  Oi : TO ∉ its
  nd : its.Nodup
section
variable {prog : Program} {w : World} {A : Around} {E : Value → Shared → Prop} {s : Shared} {z TI TO : Addr} {its : List Addr} {xs : List (Str × Nat)} {i : Nat}
theorem free_or (hz : ∃ f0 fl, s.heap.get? z = some { cls := .type "zip", dict := none, data := .fields #[f0, .bool fl, .bool false, .ref TI, .ref TO], slots := #[] } ∧ (f0 = .none ∨ ∃ a : Addr, f0 = rawInt a)) {Q : Bool → Shared → Prop}
    (h : ∀ b h', (∃ f0 fl, h'.get? z = some { cls := .type "zip", dict := none, data := .fields #[f0, .bool fl, .bool false, .ref TI, .ref TO], slots := #[] } ∧ (f0 = .none ∨ ∃ a : Addr, f0 = rawInt a)) → Heap.SameBut z s.heap h' → Q b { s with heap := h' }) :
    wpAny (model prog w) A (Builtin.SmallTypes.ownedTupleIsFree (.ref z)) Q E s := by
  obtain ⟨f0, fl, hz, e⟩ := hz
  unfold Builtin.SmallTypes.ownedTupleIsFree
  rcases e with rfl | ⟨a, rfl⟩
  · refine wpAny_bind (wpAny_field hz rfl (x := .none) rfl (wpAny_pure ?_))
    exact h true s.heap ⟨_, _, hz, .inl rfl⟩ (Heap.SameBut.refl _ _)
  · refine wpAny_bind (wpAny_field hz rfl (x := rawInt a) rfl ?_)
    show wpAny _ _ (loadIfAlive ((a : Int).toNat) >>= _) _ _ _
    rw [Int.toNat_natCast]
    have hal : ∀ {Q : Option Obj → Shared → Prop}, Q (s.heap.get? a) s → wpAny (model prog w) A (loadIfAlive a) Q E s := fun q _ _ _ => q
    refine wpAny_bind (hal ?_)
    cases s.heap.get? a with
    | none =>
      simp only [Option.isNone_none, if_true]
      exact wpAny_pure (h true s.heap ⟨_, _, hz, .inr ⟨a, rfl⟩⟩ (Heap.SameBut.refl _ _))
    | some o =>
      simp only [Option.isNone_some, Bool.false_eq_true, if_false]
      refine wpAny_bind (wpAny_field hz rfl (x := .bool fl) rfl ?_)
      cases fl with
      | true =>
        rw [if_neg (show ¬ ((Value.bool true != Value.bool true) = true) from Bool.false_ne_true)]
        exact wpAny_pure (h false s.heap ⟨_, _, hz, .inr ⟨a, rfl⟩⟩ (Heap.SameBut.refl _ _))
      | false =>
        rw [if_pos (show (Value.bool false != Value.bool true) = true from rfl)]
        exact wpAny_bind (wpAny_setField_rec hz (by simp) fun h₁ hz₁ hs₁ => wpAny_pure (h false h₁ ⟨_, _, hz₁, .inr ⟨a, rfl⟩⟩ hs₁))
/-- what is drawn at i -/
abbrev Drawn (i : Nat) (vs : List Value) (xs : List (Str × Nat)) : Prop := Paired (fun v (x : Str × Nat) => ∃ c u, x.1.cps[i]? = some c ∧ v = Value.str ⟨#[c]⟩ u) vs xs
abbrev Its (h : Heap) (i : Nat) (its : List Addr) (xs : List (Str × Nat)) : Prop := Paired (fun a (x : Str × Nat) => h.IsStrIter a (strIterType x.1) x.1 x.2 i) its xs
theorem Its.keep {h h' : Heap} {i : Nat} : ∀ {its : List Addr} {xs : List (Str × Nat)}, Its h i its xs → (∀ a ∈ its, ∀ o, h.get? a = some o → h'.get? a = some o) → Its h' i its xs
  | _, _, .nil, _ => .nil
  | _, _, .cons a r, k => by
    obtain ⟨o, e, f⟩ := a
    exact .cons ⟨o, k _ List.mem_cons_self o e, f⟩ (Its.keep r fun b m => k b (List.mem_cons_of_mem _ m))
theorem paired_snoc {α β : Type} {F : α → β → Prop} {l : List α} {m : List β} {a : α} {b : β} (h : Paired F l m) (g : F a b) : Paired F (l ++ [a]) (m ++ [b]) := by
  induction h with
  | nil => exact .cons g .nil
  | cons x _ ih => exact .cons x ih
/-- how far the draws of one turn are -/
structure Lp (s : Shared) (h : Heap) (z TI TO : Addr) (its : List Addr) (xs : List (Str × Nat)) (i : Nat) (its1 its2 : List Addr) (xs1 xs2 : List (Str × Nat)) (vs : List Value) (oz : Obj) : Prop where
  ei : its = its1 ++ its2
  ex : xs = xs1 ++ xs2
  dr : Drawn i vs xs1
  i1 : Its h (i + 1) its1 xs1
  i2 : Its h i its2 xs2
  sz : h.objs.size = s.heap.objs.size
  zip : h.get? z = some oz
  kp : ∀ c o, c ≠ z → c ≠ TO → c ∉ its1 → s.heap.get? c = some o → h.get? c = some o
  to : ∃ os : List Value, os.length = its.length ∧ os.take its1.length = os.take its1.length ∧ h.get? TO = some { cls := .type "tuple", data := .seq os.toArray }
/-- one draw more -/
theorem Lp.draw {h : Heap} {tk : Nat} {its1 its2 : List Addr} {xs1 xs2 : List (Str × Nat)} {vs : List Value} {oz : Obj} {a : Addr} {Q : Value → Shared → Prop} (hh : A.handled = none) (S : Zs z TI TO its) (L : Lp s h z TI TO its xs i its1 (a :: its2) xs1 xs2 vs oz) (hlt : ∀ x ∈ xs, i < x.1.cps.size)
    (hQ : ∀ v x xs2' h' tk', xs2 = x :: xs2' → Lp s h' z TI TO its xs i (its1 ++ [a]) its2 (xs1 ++ [x]) xs2' (vs ++ [v]) oz → Heap.SameBut a h h' → Q v { s with heap := h', toks := tk' }) :
    wpAny (model prog w) A (Builtin.SmallTypes.nextOf (.ref a)) Q E { s with heap := h, toks := tk } := by
  obtain ⟨ei, ex, dr, i1, i2, sz, hz, kp, os, ho1, ho2, ho3⟩ := L
  cases i2 with
  | cons st i2 =>
    rename_i x xs2
    have ma : a ∈ its := by rw [ei]; exact List.mem_append_right _ List.mem_cons_self
    have za : z ≠ a := fun e => S.zi (e ▸ ma)
    have Oa : TO ≠ a := fun e => S.Oi (e ▸ ma)
    have nd := S.nd
    rw [ei] at nd
    obtain ⟨nd1, nd2, nd3⟩ := List.nodup_append.mp nd
    have hx : x ∈ xs := by rw [ex]; exact List.mem_append_right _ List.mem_cons_self
    refine (Draws.text (prog := prog) (w := w) (A := A) hh a x.1 x.2).item i _ _ _ (hlt x hx) st fun v h' tk' hv st' sb => ?_
    replace sb : Heap.SameBut a h h' := sb
    have kb : ∀ c o, c ≠ a → h.get? c = some o → h'.get? c = some o := fun c o n e => sb.extBut c o n e
    refine hQ v x xs2 h' tk' rfl ⟨by rw [ei, List.append_assoc]; rfl, by rw [ex, List.append_assoc]; rfl, paired_snoc dr hv, paired_snoc (Its.keep i1 fun c m o e => kb c o (fun q => nd3 c m a List.mem_cons_self q) e) st', Its.keep i2 fun c m o e => kb c o (fun q => ?_) e, sb.1.trans sz, kb _ _ za hz, fun c o n1 n2 n3 e => kb c o (fun q => n3 (by rw [q]; simp)) (kp c o n1 n2 (fun q => n3 (List.mem_append_left _ q)) e), os, ho1, rfl, kb _ _ Oa ho3⟩ sb
    rw [q] at m
    exact (List.nodup_cons.mp nd2).1 m
/-- the held tuple is put otherwise -/
theorem Lp.put {h h' : Heap} {its1 its2 : List Addr} {xs1 xs2 : List (Str × Nat)} {vs : List Value} {oz : Obj} {os : List Value} (S : Zs z TI TO its) (L : Lp s h z TI TO its xs i its1 its2 xs1 xs2 vs oz) (sb : Heap.SameBut TO h h') (ho : os.length = its.length)
    (hT : h'.get? TO = some { cls := .type "tuple", data := .seq os.toArray }) : Lp s h' z TI TO its xs i its1 its2 xs1 xs2 vs oz := by
  obtain ⟨ei, ex, dr, i1, i2, sz, hz, kp, _⟩ := L
  have kb : ∀ c o, c ≠ TO → h.get? c = some o → h'.get? c = some o := fun c o n e => sb.extBut c o n e
  have m1 : ∀ a ∈ its1, a ≠ TO := fun a m q => S.Oi (by rw [ei, ← q]; exact List.mem_append_left _ m)
  have m2 : ∀ a ∈ its2, a ≠ TO := fun a m q => S.Oi (by rw [ei, ← q]; exact List.mem_append_right _ m)
  exact ⟨ei, ex, dr, Its.keep i1 fun a m o e => kb a o (m1 a m) e, Its.keep i2 fun a m o e => kb a o (m2 a m) e, sb.1.trans sz, kb _ _ S.zTO hz, fun c o n1 n2 n3 e => kb c o n2 (kp c o n1 n2 n3 e), os, ho, rfl, hT⟩
theorem zipN_item {Q : Value → Shared → Prop} (hh : A.handled = none) (S : Zs z TI TO its) (N : Zn s.heap z TI TO its xs i) (hlt : ∀ x ∈ xs, i < x.1.cps.size) (hne : its ≠ []) (hmany : its.length ≤ 100000)
    (hQ : ∀ vs h' tk, Drawn i vs xs → Zn h' z TI TO its xs (i + 1) → h'.get? s.heap.objs.size = some { cls := .type "tuple", data := .seq vs.toArray } → h'.objs.size = s.heap.objs.size + 1 →
      (∀ c o, c ≠ z → c ≠ TO → c ∉ its → s.heap.get? c = some o → h'.get? c = some o) → Q (.ref s.heap.objs.size) { s with heap := h', toks := tk }) :
    wpAny (model prog w) A (Builtin.«zip.__next__» ⟨[.ref z], []⟩) (fun fin s' => ∃ v, fin = .done (.ret v) ∧ Q v s') E s := by
  obtain ⟨f0, fl, hz, hf⟩ := N.zip
  show wpAny _ _ (field (.ref z) 2 >>= _) _ _ _
  refine wpAny_bind (wpAny_field hz rfl (x := .bool false) rfl ?_)
  show wpAny _ _ (field (.ref z) 3 >>= _) _ _ _
  refine wpAny_bind (wpAny_field hz rfl (x := .ref TI) rfl ?_)
  refine wpAny_bind (wpAny_seqItems N.ti rfl ?_)
  have he : ((its.map Value.ref).toArray.isEmpty) = false := by
    cases its with
    | nil => exact absurd rfl hne
    | cons a r => rfl
  simp only [he, Bool.false_eq_true, if_false]
  refine wpAny_bind (free_or N.zip fun b h1 hz1 hs1 => ?_)
  replace hs1 : Heap.SameBut z s.heap h1 := hs1
  obtain ⟨g0, gl, hg, hg2⟩ := hz1
  have hTO1 : ∃ os : List Value, os.length = its.length ∧ os.take 0 = os.take 0 ∧ h1.get? TO = some { cls := .type "tuple", data := .seq os.toArray } := by
    obtain ⟨os, o1, o2⟩ := N.to
    exact ⟨os, o1, rfl, hs1.extBut _ _ (Ne.symm S.zTO) o2⟩
  have L0 : Lp s h1 z TI TO its xs i [] its [] xs [] _ := ⟨rfl, rfl, .nil, .nil, Its.keep N.it fun a m o e => hs1.extBut _ _ (fun q => S.zi (q ▸ m)) e, hs1.1, hg, fun c o n1 _ _ e => hs1.extBut _ _ n1 e, hTO1⟩
  cases b with
  | true =>
    simp only [if_true]
    refine wpAny_bind (wpAny_rule ?_)
    refine wpAny_bind (wpAny_field hg rfl (x := .ref TO) rfl ?_)
    refine wpAny_bind (wpAny_setField_rec hg (by simp) fun h2 hz2 hs2 => ?_)
    replace hz2 : h2.get? z = some { cls := .type "zip", dict := none, data := .fields #[.ellipsis, .bool gl, .bool false, .ref TI, .ref TO], slots := #[] } := hz2
    replace hs2 : Heap.SameBut z h1 h2 := hs2
    obtain ⟨os0, oo1, _, oo2⟩ := hTO1
    have hTO2 : h2.get? TO = some { cls := .type "tuple", data := .seq os0.toArray } := hs2.extBut _ _ (Ne.symm S.zTO) oo2
    have L1 : Lp s h2 z TI TO its xs i [] its [] xs [] _ := ⟨rfl, rfl, .nil, .nil, Its.keep L0.i2 fun a m o e => hs2.extBut _ _ (fun q => S.zi (q ▸ m)) e, hs2.1.trans hs1.1, hz2, fun c o n1 n2 n3 e => hs2.extBut _ _ n1 (L0.kp c o n1 n2 n3 e), os0, oo1, rfl, hTO2⟩
    refine wpAny_bind ?_
    refine wpAny_forIn_list (s := { s with heap := h2 }) _ (fun rest b s' => ∃ its1 its2 xs1 xs2 vs hB tk os, rest = (its2.map Value.ref).zipIdx its1.length ∧ b = (none, ()) ∧ Lp s hB z TI TO its xs i its1 its2 xs1 xs2 vs { cls := .type "zip", dict := none, data := .fields #[.ellipsis, .bool gl, .bool false, .ref TI, .ref TO], slots := #[] } ∧ s' = { s with heap := hB, toks := tk } ∧
      os.length = its.length ∧ os.take its1.length = vs ∧ hB.get? TO = some { cls := .type "tuple", data := .seq os.toArray }) _ ?_ ?_ _ _ ⟨[], its, [], xs, [], h2, s.toks, os0, rfl, rfl, L1, rfl, oo1, rfl, hTO2⟩
    · rintro v rest b s' ⟨its1, its2, xs1, xs2, vs, hB, tk, os, e1, rfl, L, rfl, lo, tko, hT⟩
      cases its2 with
      | nil => cases e1
      | cons a its2 =>
        rw [List.map_cons, List.zipIdx_cons] at e1
        cases e1
        refine wpAny_bind (wpAny_onRaise ?_)
        show wpAny _ _ (Builtin.SmallTypes.nextOf (.ref a) >>= _) _ _ _
        refine wpAny_bind (L.draw hh S hlt fun u x xs2' h' tk' ex L' sb => wpAny_pure ?_)
        have ma : a ∈ its := by rw [L.ei]; simp
        have hT' : h'.get? TO = some { cls := .type "tuple", data := .seq os.toArray } := sb.extBut _ _ (fun q => S.Oi (by rw [q]; exact ma)) hT
        have hlz : os.toArray.size ≤ sizeLine := line5 (by rw [List.size_toArray]; omega)
        refine wpAny_bind (wpAny_seqItems (s := { s with heap := h', toks := tk' }) hT' rfl ?_)
        refine wpAny_bind (wpAny_updateSeq (s := { s with heap := h', toks := tk' }) hT' rfl ?_ hlz (by rw [Array.size_setIfInBounds]; omega))
        refine wpAny_bind (wpAny_letGo (wpAny_pure ?_))
        have li := L.ei
        have l1 : its1.length < os.length := by rw [lo, li, List.length_append, List.length_cons]; omega
        have hU : (h'.update TO (Obj.mapSeq fun x_2 => x_2.setIfInBounds its1.length u)).get? TO = some { cls := .type "tuple", data := .seq (os.set its1.length u).toArray } := by
          rw [Heap.get?_update_self _ hT' rfl]
          simp [Obj.mapSeq]
        refine ⟨its1 ++ [a], its2, xs1 ++ [x], xs2', vs ++ [u], _, tk', os.set its1.length u, ?_, rfl, L'.put S (Heap.SameBut.update ..) (by rw [List.length_set]; exact lo) hU, rfl, by rw [List.length_set]; exact lo, ?_, hU⟩
        · rw [List.length_append]
          rfl
        · rw [List.length_append, List.length_singleton, List.take_add_one, List.getElem?_set_self (by omega), List.take_set_of_le (Nat.le_refl _), tko]
          rfl
    · rintro b s' ⟨its1, its2, xs1, xs2, vs, hB, tk, os, e1, rfl, L, rfl, lo, tko, hT⟩
      have e2 : its2 = [] := by
        cases its2 with
        | nil => rfl
        | cons a r => cases e1
      subst e2
      have e3 : xs2 = [] := by
        cases L.i2
        rfl
      subst e3
      obtain ⟨ei, ex, dr, i1, i2, sz, hz', kp, _⟩ := L
      rw [List.append_nil] at ei ex
      subst ei ex
      rw [← lo, List.take_length] at tko
      subst tko
      have hvl : os.toArray.toList.length ≤ sizeLine := line5 (by simp; omega)
      show wpAny _ _ (seqItems? (.ref TO) >>= _) _ _ _
      refine wpAny_bind (wpAny_seqItems (s := { s with heap := hB, toks := tk }) hT rfl ?_)
      refine wpAny_bind (wpAny_newTuple ?_ hvl)
      have hp : (hB.push { cls := .type "tuple", data := .seq os.toArray.toList.toArray }).get? hB.objs.size = some { cls := .type "tuple", data := .seq os.toArray.toList.toArray } := Heap.get?_push_size _ rfl
      have hz4 : (hB.push { cls := .type "tuple", data := .seq os.toArray.toList.toArray }).objs.size = hB.objs.size + 1 := Heap.size_push ..
      have up : ∀ c o, hB.get? c = some o → (hB.push { cls := .type "tuple", data := .seq os.toArray.toList.toArray }).get? c = some o := fun c o e => Heap.get?_push_of_some _ e
      show wpAny _ _ (Builtin.SmallTypes.ownedTupleHandOut (.ref z) (.ref hB.objs.size) >>= _) _ _ { s with heap := hB.push { cls := .type "tuple", data := .seq os.toArray.toList.toArray }, toks := tk }
      revert hp hz4 up
      generalize hB.push { cls := .type "tuple", data := .seq os.toArray.toList.toArray } = hC
      intro hp hz4 up
      have hzlt : z < hB.objs.size := Heap.lt_size hz'
      refine wpAny_bind ?_
      unfold Builtin.SmallTypes.ownedTupleHandOut
      refine wpAny_bind (wpAny_setField_rec (s := { s with heap := hC, toks := tk }) (up _ _ hz') (by simp) fun h₇ hz₇ hs₇ => ?_)
      replace hz₇ : h₇.get? z = some { cls := .type "zip", dict := none, data := .fields #[rawInt hB.objs.size, .bool gl, .bool false, .ref TI, .ref TO], slots := #[] } := hz₇
      replace hs₇ : Heap.SameBut z hC h₇ := hs₇
      refine wpAny_setField_rec (s := { s with heap := h₇, toks := tk }) hz₇ (by simp) fun h₈ hz₈ hs₈ => ?_
      replace hz₈ : h₈.get? z = some { cls := .type "zip", dict := none, data := .fields #[rawInt hB.objs.size, .bool false, .bool false, .ref TI, .ref TO], slots := #[] } := hz₈
      replace hs₈ : Heap.SameBut z h₇ h₈ := hs₈
      have up8 : ∀ c o, c ≠ z → hB.get? c = some o → h₈.get? c = some o := fun c o n e => hs₈.extBut _ _ n (hs₇.extBut _ _ n (up c o e))
      have hT8 : h₈.get? hB.objs.size = some { cls := .type "tuple", data := .seq os.toArray.toList.toArray } := hs₈.extBut _ _ (Nat.ne_of_gt hzlt) (hs₇.extBut _ _ (Nat.ne_of_gt hzlt) hp)
      have hz8 : h₈.objs.size = hB.objs.size + 1 := by rw [hs₈.1, hs₇.1, hz4]
      rw [sz] at hT8 hz8
      refine wpAny_pure ⟨_, rfl, ?_⟩
      show Q (.ref hB.objs.size) _
      rw [sz]
      refine hQ os h₈ tk dr ⟨⟨_, _, hz₈, .inr ⟨_, rfl⟩⟩, up8 _ _ (Ne.symm S.zTI) (kp _ _ (Ne.symm S.zTI) S.TIO S.Ti N.ti), ⟨os, lo, up8 _ _ (Ne.symm S.zTO) hT⟩, Its.keep i1 fun a m o e => up8 _ _ (fun q => S.zi (q ▸ m)) e⟩ (by simpa using hT8) hz8 fun c o n1 n2 n3 e => up8 _ _ n1 (kp c o n1 n2 n3 e)
  | false =>
    simp only [Bool.false_eq_true, if_false]
    refine wpAny_bind ?_
    rw [← Array.forIn_toList]
    refine wpAny_forIn_list (s := { s with heap := h1 }) _ (fun rest b s' => ∃ its1 its2 xs1 xs2 vs hB tk, rest = its2.map Value.ref ∧ b = (none, vs.toArray) ∧ Lp s hB z TI TO its xs i its1 its2 xs1 xs2 vs { cls := .type "zip", dict := none, data := .fields #[g0, .bool gl, .bool false, .ref TI, .ref TO], slots := #[] } ∧ s' = { s with heap := hB, toks := tk }) _ ?_ ?_ _ _ ⟨[], its, [], xs, [], h1, s.toks, rfl, rfl, L0, rfl⟩
    · rintro v rest b s' ⟨its1, its2, xs1, xs2, vs, hB, tk, e1, rfl, L, rfl⟩
      cases its2 with
      | nil => cases e1
      | cons a its2 =>
        cases e1
        refine wpAny_bind (wpAny_holding ?_)
        show wpAny _ _ (Builtin.SmallTypes.nextOf (.ref a) >>= _) _ _ _
        refine wpAny_bind (L.draw hh S hlt fun u x xs2' h' tk' ex L' sb => wpAny_pure ?_)
        refine wpAny_pure ?_
        exact ⟨its1 ++ [a], its2, xs1 ++ [x], xs2', vs ++ [u], h', tk', rfl, by simp, L', rfl⟩
    · rintro b s' ⟨its1, its2, xs1, xs2, vs, hB, tk, e1, rfl, L, rfl⟩
      have e2 : its2 = [] := by
        cases its2 with
        | nil => rfl
        | cons a r => cases e1
      subst e2
      have e3 : xs2 = [] := by
        cases L.i2
        rfl
      subst e3
      obtain ⟨ei, ex, dr, i1, i2, sz, hz', kp, os, ho1, ho2, ho3⟩ := L
      rw [List.append_nil] at ei ex
      subst ei ex
      have hvl : vs.length ≤ sizeLine := by
        have h1 := dr.length
        have h2 := i1.length
        exact line5 (by omega)
      show wpAny _ _ (newTuple vs.toArray.toList >>= _) _ _ _
      refine wpAny_bind (wpAny_newTuple ?_ (by simpa using hvl))
      refine wpAny_pure ⟨_, rfl, ?_⟩
      have hp : (hB.push { cls := .type "tuple", data := .seq vs.toArray.toList.toArray }).get? hB.objs.size = some { cls := .type "tuple", data := .seq vs.toArray.toList.toArray } := Heap.get?_push_size _ rfl
      have hz4 : (hB.push { cls := .type "tuple", data := .seq vs.toArray.toList.toArray }).objs.size = hB.objs.size + 1 := Heap.size_push ..
      have up : ∀ c o, hB.get? c = some o → (hB.push { cls := .type "tuple", data := .seq vs.toArray.toList.toArray }).get? c = some o := fun c o e => Heap.get?_push_of_some _ e
      revert hp hz4 up
      generalize hB.push { cls := .type "tuple", data := .seq vs.toArray.toList.toArray } = hC
      intro hp hz4 up
      rw [sz] at hp hz4
      show Q (.ref hB.objs.size) _
      rw [sz]
      refine hQ vs hC tk dr ⟨⟨g0, gl, up _ _ hz', hg2⟩, up _ _ (kp _ _ (Ne.symm S.zTI) S.TIO S.Ti N.ti), ⟨os, ho1, up _ _ ho3⟩, Its.keep i1 fun a m o e => up _ _ e⟩ (by simpa using hp) hz4 fun c o n1 n2 n3 e => up _ _ (kp c o n1 n2 n3 e)
/-- texts, each with its token, as values -/
abbrev txts (xs : List (Str × Nat)) : List Value := xs.map fun x => Value.str x.1 x.2
theorem zip_tc (args : List Value) : checkTypeCall "zip" ⟨args, []⟩ = pure () := by kernel_rfl
theorem zip_nc (a : Value) (args : List Value) : checkBuiltinCall "zip.__new__" ⟨.type "zip" :: a :: args, []⟩ = pure () := by kernel_rfl
theorem zip_ao (obj : Value) (args : List Value) : argsOk "object.__init__" ⟨obj :: args, []⟩ := by unfold argsOk; kernel_rfl
/-- the iterators of texts, begun one behind another -/
def itO (x : Str × Nat) : Obj := { cls := .type (strIterType x.1), data := .fields #[.str x.1 x.2, .int 0 0] }
def pushAll : Heap → List (Str × Nat) → Heap
  | h, [] => h
  | h, x :: xs => pushAll (h.push (itO x)) xs
theorem pushAll_size : ∀ (xs : List (Str × Nat)) (h : Heap), (pushAll h xs).objs.size = h.objs.size + xs.length
  | [], h => rfl
  | x :: xs, h => by
    rw [pushAll, pushAll_size xs, Heap.size_push, List.length_cons]
    omega
theorem pushAll_keep : ∀ (xs : List (Str × Nat)) (h : Heap) (c : Addr) (o : Obj), h.get? c = some o → (pushAll h xs).get? c = some o
  | [], _, _, _, e => e
  | x :: xs, h, c, o, e => pushAll_keep xs _ c o (Heap.get?_push_of_some _ e)
theorem pushAll_its : ∀ (xs : List (Str × Nat)) (h : Heap), Its (pushAll h xs) 0 (List.range' h.objs.size xs.length) xs
  | [], _ => .nil
  | x :: xs, h => by
    refine .cons ⟨itO x, pushAll_keep xs _ _ _ (Heap.get?_push_size _ rfl), rfl, rfl⟩ ?_
    have z := pushAll_its xs (h.push (itO x))
    rw [Heap.size_push] at z
    exact z
theorem pushAll_snoc : ∀ (xs : List (Str × Nat)) (h : Heap) (x : Str × Nat), pushAll h (xs ++ [x]) = (pushAll h xs).push (itO x)
  | [], _, _ => rfl
  | y :: xs, h, x => by
    show pushAll (h.push (itO y)) (xs ++ [x]) = _
    rw [pushAll_snoc xs]
    rfl
theorem iterAll_txts (xs : List (Str × Nat)) {Q : List Value → Shared → Prop} {s : Shared} (hQ : Q ((List.range' s.heap.objs.size xs.length).map Value.ref) { s with heap := pushAll s.heap xs }) :
    wpAny (model prog w) A (Builtin.SmallTypes.iterAll (txts xs)) Q E s := by
  unfold Builtin.SmallTypes.iterAll
  simp only [pure_bind, bind_assoc]
  refine wpAny_bind ?_
  refine wpAny_forIn_list _ (fun rest b s' => ∃ xs1 xs2, xs = xs1 ++ xs2 ∧ rest = txts xs2 ∧ b = ((List.range' s.heap.objs.size xs1.length).map Value.ref).toArray ∧ s' = { s with heap := pushAll s.heap xs1 }) _ ?_ ?_ _ _ ⟨[], xs, rfl, rfl, rfl, rfl⟩
  · rintro v rest b s' ⟨xs1, xs2, e, e1, rfl, rfl⟩
    cases xs2 with
    | nil => cases e1
    | cons x xs2 =>
      cases e1
      refine wpAny_bind (wpAny_holding ?_)
      refine (begins_text x.1 x.2).iter prog w A _ _ _ trivial (wpAny_pure ?_)
      refine ⟨xs1 ++ [x], xs2, by rw [e, List.append_assoc]; rfl, rfl, ?_, ?_⟩
      · show (((List.range' s.heap.objs.size xs1.length).map Value.ref).toArray.push (.ref (pushAll s.heap xs1).objs.size)) = _
        rw [pushAll_size, List.length_append, List.length_singleton, List.range'_concat, List.map_append]
        simp
      · rw [pushAll_snoc]
        rfl
  · rintro b s' ⟨xs1, xs2, e, e1, rfl, rfl⟩
    have e2 : xs2 = [] := by
      cases xs2 with
      | nil => rfl
      | cons a r => cases e1
    subst e2
    rw [List.append_nil] at e
    subst e
    refine wpAny_pure ?_
    simpa using hQ
def zT1 (h : Heap) (xs : List (Str × Nat)) : Heap := (pushAll h xs).push { cls := .type "tuple", data := .seq ((List.range' h.objs.size xs.length).map Value.ref).toArray }
def zT2 (h : Heap) (xs : List (Str × Nat)) : Heap := (zT1 h xs).push { cls := .type "tuple", data := .seq (((List.range' h.objs.size xs.length).map Value.ref).map fun _ => Value.none).toArray }
def zT3 (h : Heap) (xs : List (Str × Nat)) : Heap := (zT2 h xs).push { cls := .type "zip", data := .fields #[.none, .bool false, .bool false, .ref (pushAll h xs).objs.size, .ref (zT1 h xs).objs.size] }
theorem meets_zipN (x : Str × Nat) (xs : List (Str × Nat)) :
    Meets (Builtin.«zip.__new__» ⟨.type "zip" :: txts (x :: xs), []⟩) (fun _ R s => (x :: xs).length ≤ 100000 ∧ R (.ok (.ret (.ref (zT2 s.heap (x :: xs)).objs.size))) { s with heap := zT3 s.heap (x :: xs) }) :=
  .of_wp fun prog w A R s h => by
    obtain ⟨hp, g, d, tk, os⟩ := s
    obtain ⟨hl, h⟩ := h
    have hsub := sub_zip
    have q1 : ∀ {A' : Around} {E : Value → Shared → Prop} {Q : List Value → Shared → Prop}, Q ((List.range' hp.objs.size (x :: xs).length).map Value.ref) ⟨pushAll hp (x :: xs), g, d, tk, os⟩ → wpAny (model prog w) A' (Builtin.SmallTypes.iterAll (txts (x :: xs))) Q E ⟨hp, g, d, tk, os⟩ :=
      fun q => iterAll_txts (x :: xs) (s := ⟨hp, g, d, tk, os⟩) q
    generalize txts (x :: xs) = vs at q1 ⊢
    have hsz : ((List.range' hp.objs.size (x :: xs).length).map Value.ref).length ≤ sizeLine := by
      rw [List.length_map, List.length_range']
      exact line5 hl
    generalize his : (List.range' hp.objs.size (x :: xs).length).map Value.ref = is at q1 hsz
    wp_walk using q1
    subst his
    exact ⟨_, rfl, h⟩
/-- zip( *texts): its new cells -/
theorem call_zipN {Q : Value → Shared → Prop} (x : Str × Nat) (xs : List (Str × Nat)) (hl : (x :: xs).length ≤ 100000)
    (h : ∀ its z TI TO h', Zs z TI TO its → its ≠ [] → its.length = (x :: xs).length → Zn h' z TI TO its (x :: xs) 0 → (∀ a, a ∈ z :: TI :: TO :: its → s.heap.objs.size ≤ a) → (∀ c o, s.heap.get? c = some o → h'.get? c = some o) → Q (.ref z) { s with heap := h' }) :
    wpAny (model prog w) A (call (.type "zip") (txts (x :: xs))) Q E s := by
  refine callType_new F.called_zip (by decide) (zip_tc _) (zip_nc _ _) (fun obj => zip_ao obj _) F.entry_zip_new (meets_zipN x xs) ⟨hl, ?_⟩
  have hne : x :: xs ≠ [] := fun e => nomatch e
  generalize x :: xs = ys at h hne ⊢
  have e0 := pushAll_size ys s.heap
  have e1 : (zT1 s.heap ys).objs.size = s.heap.objs.size + ys.length + 1 := by unfold zT1; rw [Heap.size_push, e0]
  have e2 : (zT2 s.heap ys).objs.size = s.heap.objs.size + ys.length + 2 := by unfold zT2; rw [Heap.size_push, e1]
  have up1 : ∀ c o, (pushAll s.heap ys).get? c = some o → (zT1 s.heap ys).get? c = some o := fun c o e => Heap.get?_push_of_some _ e
  have up2 : ∀ c o, (zT1 s.heap ys).get? c = some o → (zT2 s.heap ys).get? c = some o := fun c o e => Heap.get?_push_of_some _ e
  have up3 : ∀ c o, (zT2 s.heap ys).get? c = some o → (zT3 s.heap ys).get? c = some o := fun c o e => Heap.get?_push_of_some _ e
  have gZ : (zT3 s.heap ys).get? (zT2 s.heap ys).objs.size = some { cls := .type "zip", data := .fields #[.none, .bool false, .bool false, .ref (pushAll s.heap ys).objs.size, .ref (zT1 s.heap ys).objs.size] } := Heap.get?_push_size _ rfl
  have gO : (zT3 s.heap ys).get? (zT1 s.heap ys).objs.size = some { cls := .type "tuple", data := .seq (((List.range' s.heap.objs.size ys.length).map Value.ref).map fun _ => Value.none).toArray } := up3 _ _ (Heap.get?_push_size _ rfl)
  have gT : (zT3 s.heap ys).get? (pushAll s.heap ys).objs.size = some { cls := .type "tuple", data := .seq ((List.range' s.heap.objs.size ys.length).map Value.ref).toArray } := up3 _ _ (up2 _ _ (Heap.get?_push_size _ rfl))
  have hr : ∀ a ∈ List.range' s.heap.objs.size ys.length, s.heap.objs.size ≤ a ∧ a < s.heap.objs.size + ys.length := fun a m => by
    rw [List.mem_range'_1] at m
    exact m
  have dz : (zT2 s.heap ys).objs.size ≠ (pushAll s.heap ys).objs.size := by rw [e2, e0]; omega
  have dO : (zT2 s.heap ys).objs.size ≠ (zT1 s.heap ys).objs.size := by rw [e2, e1]; omega
  have dT : (pushAll s.heap ys).objs.size ≠ (zT1 s.heap ys).objs.size := by rw [e0, e1]; omega
  have hS : Zs (zT2 s.heap ys).objs.size (pushAll s.heap ys).objs.size (zT1 s.heap ys).objs.size (List.range' s.heap.objs.size ys.length) :=
    ⟨dz, dO, dT, fun m => by have := (hr _ m).2; omega, fun m => by have := (hr _ m).2; omega, fun m => by have := (hr _ m).2; omega, List.nodup_range'⟩
  have hN : Zn (zT3 s.heap ys) (zT2 s.heap ys).objs.size (pushAll s.heap ys).objs.size (zT1 s.heap ys).objs.size (List.range' s.heap.objs.size ys.length) ys 0 :=
    ⟨⟨_, _, gZ, .inl rfl⟩, gT, ⟨_, by rw [List.length_map, List.length_map], gO⟩, Its.keep (pushAll_its ys s.heap) fun a _ o e => up3 _ _ (up2 _ _ (up1 _ _ e))⟩
  refine ⟨⟨_, gZ, rfl⟩, h _ _ _ _ _ hS (fun e => hne ?_) (List.length_range' ..) hN (fun a m => ?_) fun c o e => up3 _ _ (up2 _ _ (up1 _ _ (pushAll_keep ys _ c o e)))⟩
  · have l : (List.range' s.heap.objs.size ys.length).length = 0 := by rw [e]; rfl
    rw [List.length_range'] at l
    exact List.eq_nil_of_length_eq_zero l
  · rcases List.mem_cons.mp m with e | m
    · rw [e, e2]
      omega
    rcases List.mem_cons.mp m with e | m
    · rw [e, e0]
      omega
    rcases List.mem_cons.mp m with e | m
    · rw [e, e1]
      omega
    exact (hr a m).1
/-- the end: every text is through -/
theorem zipN_end {Q : Fin → Shared → Prop} (hh : A.handled = none) (S : Zs z TI TO its) (N : Zn s.heap z TI TO its xs i) (hend : ∀ x ∈ xs, x.1.cps.size = i) (hne : its ≠ [])
    (hE : ∀ h' e, (∀ c o, c ≠ z → c ∉ its → s.heap.get? c = some o → h'.get? c = some o) → (∃ o, h'.get? e = some o ∧ o.cls = .type "StopIteration") → E (.ref e) { s with heap := h' }) :
    wpAny (model prog w) A (Builtin.«zip.__next__» ⟨[.ref z], []⟩) Q E s := by
  obtain ⟨f0, fl, hz, hf⟩ := N.zip
  show wpAny _ _ (field (.ref z) 2 >>= _) _ _ _
  refine wpAny_bind (wpAny_field hz rfl (x := .bool false) rfl ?_)
  show wpAny _ _ (field (.ref z) 3 >>= _) _ _ _
  refine wpAny_bind (wpAny_field hz rfl (x := .ref TI) rfl ?_)
  refine wpAny_bind (wpAny_seqItems N.ti rfl ?_)
  have it := N.it
  cases it with
  | nil => exact absurd rfl hne
  | cons st r =>
    rename_i a x its xs
    have he : (((a :: its).map Value.ref).toArray.isEmpty) = false := rfl
    simp only [he, Bool.false_eq_true, if_false]
    have za : z ≠ a := fun e => S.zi (by rw [e]; exact List.mem_cons_self)
    have hx := hend x List.mem_cons_self
    refine wpAny_bind (free_or N.zip fun b h1 hz1 hs1 => ?_)
    replace hs1 : Heap.SameBut z s.heap h1 := hs1
    obtain ⟨g0, gl, hg, hg2⟩ := hz1
    have st1 : h1.IsStrIter a (strIterType x.1) x.1 x.2 i := by
      obtain ⟨o, e, f⟩ := st
      exact ⟨o, hs1.extBut _ _ (Ne.symm za) e, f⟩
    cases b with
    | true =>
      simp only [if_true]
      refine wpAny_bind (wpAny_rule ?_)
      refine wpAny_bind (wpAny_field hg rfl (x := .ref TO) rfl ?_)
      refine wpAny_bind (wpAny_setField_rec hg (by simp) fun h2 hz2 hs2 => ?_)
      replace hz2 : h2.get? z = some { cls := .type "zip", dict := none, data := .fields #[.ellipsis, .bool gl, .bool false, .ref TI, .ref TO], slots := #[] } := hz2
      replace hs2 : Heap.SameBut z h1 h2 := hs2
      have st2 : h2.IsStrIter a (strIterType x.1) x.1 x.2 i := by
        obtain ⟨o, e, f⟩ := st1
        exact ⟨o, hs2.extBut _ _ (Ne.symm za) e, f⟩
      simp only [List.map_cons, List.zipIdx_cons, List.forIn_cons]
      refine wpAny_bind (wpAny_bind (wpAny_bind (wpAny_onRaise ?_)))
      show wpAny _ _ (Builtin.SmallTypes.nextOf (.ref a) >>= _) _ _ _
      refine wpAny_bind ((Draws.text (prog := prog) (w := w) (A := A) hh a x.1 x.2).done _ _ _ (by rw [hx]; exact st2) fun h' e eb he' => ?_)
      replace eb : Heap.ExtBut a h2 h' := eb
      refine wpAny_setField_rec (s := { s with heap := h' }) (eb _ _ za hz2) (by simp) fun h3 hz3 hs3 => ?_
      replace hs3 : Heap.SameBut z h' h3 := hs3
      obtain ⟨o, ho, hc⟩ := he'
      have nez : e ≠ z := fun q => by
        rw [q, eb _ _ za hz2] at ho
        cases ho
        have q2 : ("zip" : String) = "StopIteration" := by
          injection hc
        exact absurd q2 (by decide)
      exact hE h3 e (fun c o n1 n2 e => hs3.extBut _ _ n1 (eb _ _ (fun q => n2 (by rw [q]; exact List.mem_cons_self)) (hs2.extBut _ _ n1 (hs1.extBut _ _ n1 e)))) ⟨o, hs3.extBut _ _ nez ho, hc⟩
    | false =>
      simp only [Bool.false_eq_true, if_false]
      refine wpAny_bind ?_
      rw [← Array.forIn_toList]
      simp only [List.map_cons, List.forIn_cons]
      refine wpAny_bind (wpAny_bind (wpAny_holding ?_))
      show wpAny _ _ (Builtin.SmallTypes.nextOf (.ref a) >>= _) _ _ _
      refine wpAny_bind ((Draws.text (prog := prog) (w := w) (A := A) hh a x.1 x.2).done _ _ _ (by rw [hx]; exact st1) fun h' e eb he' => ?_)
      replace eb : Heap.ExtBut a h1 h' := eb
      exact hE h' e (fun c o n1 n2 e => eb _ _ (fun q => n2 (by rw [q]; exact List.mem_cons_self)) (hs1.extBut _ _ n1 e)) he'
theorem pyNext_zipN {Q : Option Value → Shared → Prop} (hh : A.in1.handled = none) (S : Zs z TI TO its) (N : Zn s.heap z TI TO its xs i) (hlt : ∀ x ∈ xs, i < x.1.cps.size) (hne : its ≠ []) (hmany : its.length ≤ 100000)
    (hQ : ∀ vs h' tk, Drawn i vs xs → Zn h' z TI TO its xs (i + 1) → h'.get? s.heap.objs.size = some { cls := Value.type "tuple", data := .seq vs.toArray } → h'.objs.size = s.heap.objs.size + 1 →
      (∀ c o, c ≠ z → c ≠ TO → c ∉ its → s.heap.get? c = some o → h'.get? c = some o) → Q (some (.ref s.heap.objs.size)) { s with heap := h', toks := tk }) :
    wpAny (model prog w) A (pyNext (.ref z)) Q E s := by
  have hT : s.TypeIs (.ref z) "zip" := by
    obtain ⟨f0, fl, hz, _⟩ := N.zip
    exact ⟨_, hz, rfl⟩
  unfold pyNext
  exact wpAny_bind (wpAny_attempt (wpAny_callSpecial?_slot (name := Str.ofString "__next__") hT F.slot_zip_next
    (wpAny_call_entry F.slot_zip_next hT F.entry_zip_next
      (zipN_item hh S N hlt hne hmany fun vs h' tk a b c d e => wpAny_pure (hQ vs h' tk a b c d e)) (F.args_zip_next_1 _))))
theorem pyNext_zipN_end {Q : Option Value → Shared → Prop} (hh : A.in1.handled = none) (S : Zs z TI TO its) (N : Zn s.heap z TI TO its xs i) (hend : ∀ x ∈ xs, x.1.cps.size = i) (hne : its ≠ [])
    (hQ : ∀ h', (∀ c o, c ≠ z → c ∉ its → s.heap.get? c = some o → h'.get? c = some o) → Q none { s with heap := h' }) : wpAny (model prog w) A (pyNext (.ref z)) Q E s := by
  have hT : s.TypeIs (.ref z) "zip" := by
    obtain ⟨f0, fl, hz, _⟩ := N.zip
    exact ⟨_, hz, rfl⟩
  unfold pyNext
  refine wpAny_bind (wpAny_attempt (wpAny_callSpecial?_slot (name := Str.ofString "__next__") hT F.slot_zip_next
    (wpAny_call_entry F.slot_zip_next hT F.entry_zip_next (zipN_end hh S N hend hne fun h' e hk he => ?_) (F.args_zip_next_1 _))))
  obtain ⟨o, ho, hc⟩ := he
  refine wpAny_bind (wpAny_isInstance (T := "StopIteration") (b := true) ⟨o, ho, hc⟩ isSubtype_stop ?_)
  exact wpAny_pure (hQ _ hk)
end
end Z

set_option maxRecDepth 100000
set_option maxHeartbeats 4000000
namespace Z
open PySem PySem.Spec PySem.Builtin PySem.Builtin.Str PyProof.Rows L2
/-! ### for x in zip( *texts) -/
def JZ (n : Nat) (col : Nat → List V) : It :=
  ⟨fun i _ => i < n, fun i H v H' => ∃ T, v = .ref T ∧ H T = none ∧ H' = upd H T (.tup (col i)), fun i _ => n ≤ i⟩
def colV (rows : List Str) (i : Nat) : List V := rows.map fun z => V.str (one (z.cps.toList.getD i 0))
theorem pyIter_z {prog : Program} {w : World} {A : Around} {E : Value → Shared → Prop} {s : Shared} {z : Addr} {Q : Value → Shared → Prop} (hT : s.TypeIs (.ref z) "zip") (h : Q (.ref z) s) : wpAny (model prog w) A (pyIter (.ref z)) Q E s := by
  refine wpAny_pyIter_slot hT F.slot_zip_iter (wpAny_call_entry F.slot_zip_iter hT F.entry_zip_iter ?_ (F.args_zip_iter_1 _))
  show wpAny _ _ (ret (.ref z)) _ _ s
  exact wpAny_pure ⟨_, rfl, "zip", _, hT, F.slot_zip_next.lookup, h⟩
theorem drawn_vals {i : Nat} : ∀ {vs : List Value} {xs : List (Str × Nat)}, Drawn i vs xs → Vals (colV (xs.map (·.1)) i) vs
  | _, _, .nil => .nil
  | _, _, .cons ⟨c, u, e, ev⟩ r => by
    refine .cons ?_ (drawn_vals r)
    subst ev
    refine ⟨u, ?_⟩
    rename_i x _ _
    have : x.1.cps.toList.getD i 0 = c := by
      rw [List.getD_eq_getElem?_getD, Array.getElem?_toList, e]
      rfl
    rw [this]
    rfl
theorem turn_zipN {P : Program} {w : World} {K : PySem.W.Frag} {tg : Str} {tpos : Pos} {z TI TO : Addr} {its : List Addr} {xs : List (Str × Nat)} {n : Nat} (S : Zs z TI TO its) (hne : its ≠ []) (hmany : its.length ≤ 100000) (hlen : its.length = xs.length) (hn : ∀ x ∈ xs, x.1.cps.size = n) :
    Turn P w K (.Name tg tpos) (JZ n (colV (xs.map (·.1)))) (z :: TI :: TO :: its) z (fun i h => Zn h z TI TO its xs i ∧ i ≤ n) where
  mem := List.mem_cons_self
  obj := fun i h st b hb => by
    obtain ⟨N, _⟩ := st
    rcases List.mem_cons.mp hb with q | hb
    · obtain ⟨_, _, e, _⟩ := N.zip
      rw [q]
      exact ⟨_, e, fun v q => nomatch q⟩
    rcases List.mem_cons.mp hb with q | hb
    · rw [q]
      exact ⟨_, N.ti, fun v q => nomatch q⟩
    rcases List.mem_cons.mp hb with q | hb
    · obtain ⟨_, _, e⟩ := N.to
      rw [q]
      exact ⟨_, e, fun v q => nomatch q⟩
    have it := N.it
    clear N hne hmany hlen
    have key : ∀ {its : List Addr} {xs : List (Str × Nat)}, Its h i its xs → b ∈ its → ∃ o, h.get? b = some o ∧ ∀ v, o.data ≠ .cell v := by
      intro its xs r
      induction r with
      | nil => intro m; cases m
      | cons a _ ih =>
        intro m
        rcases List.mem_cons.mp m with q | m
        · obtain ⟨o, e, _, d⟩ := a
          rw [q]
          exact ⟨o, e, fun v q => by rw [d] at q; cases q⟩
        · exact ih m
    exact key it hb
  keep := fun i h h' st k => by
    obtain ⟨⟨⟨f0, fl, hz, hf⟩, ti, ⟨os, ho, hto⟩, it⟩, hle⟩ := st
    exact ⟨⟨⟨f0, fl, k _ (by simp) _ hz, hf⟩, k _ (by simp) _ ti, ⟨os, ho, k _ (by simp) _ hto⟩, Its.keep it fun a m o e => k a (by simp [m]) o e⟩, hle⟩
  item := by
    intro X hP hw hK hc i pins s σ H E I hf st hg
    subst hP hw hK
    obtain ⟨N, _⟩ := st
    have hg' : i < n := hg
    have lt : ∀ b ∈ z :: TI :: TO :: its, b < s.heap.objs.size := fun b hb => by
      rcases List.mem_cons.mp hb with q | hb
      · obtain ⟨_, _, e, _⟩ := N.zip
        rw [q]; exact Heap.lt_size e
      rcases List.mem_cons.mp hb with q | hb
      · rw [q]; exact Heap.lt_size N.ti
      rcases List.mem_cons.mp hb with q | hb
      · obtain ⟨_, _, e⟩ := N.to
        rw [q]; exact Heap.lt_size e
      have key : ∀ {its : List Addr} {xs : List (Str × Nat)}, Its s.heap i its xs → b ∈ its → b < s.heap.objs.size := by
        intro its xs r
        induction r with
        | nil => intro m; cases m
        | cons a _ ih =>
          intro m
          rcases List.mem_cons.mp m with q | m
          · obtain ⟨o, e, _⟩ := a
            rw [q]; exact Heap.lt_size e
          · exact ih m
      exact key N.it hb
    refine pyNext_zipN (I.ok.hd hc) S N (fun x m => by rw [hn x m]; exact hg') hne hmany fun vs h' tk dr N' hT hsz hk => ?_
    refine ⟨_, rfl, ?_⟩
    unfold letOwnedTupleGo
    refine wpAny_pure ?_
    have rv := drawn_vals dr
    have hl : (colV (xs.map (·.1)) i).length ≤ sizeLine := by
      unfold colV
      rw [List.length_map, List.length_map]
      exact line5 (by omega)
    have new : ObjOk X.prog X.w (upd H s.heap.objs.size (.tup (colV (xs.map (·.1)) i))) h' s.heap.objs.size (.tup (colV (xs.map (·.1)) i)) := ⟨hl, vs, rv, ⟨_, hT, rfl, _, rfl⟩⟩
    have I1 : Inv X pins σ (upd H s.heap.objs.size (.tup (colV (xs.map (·.1)) i))) { s with heap := h', toks := tk } :=
      I.turnedNew (ch := z :: TI :: TO :: its) (fun c o hb q => hk c o (fun q' => hb (by simp [q'])) (fun q' => hb (by simp [q'])) (fun q' => hb (by simp [q'])) q) hf (Nat.le_refl _) new
    refine ⟨.ref s.heap.objs.size, _, I1, rfl, ⟨_, rfl, I.hok.fresh (Nat.le_refl _), rfl⟩, ⟨N', hg'⟩, fun b hb => ?_⟩
    rw [upd_ne (Nat.ne_of_lt (lt b hb))]
    exact (hf b hb).1
  done := by
    intro X hP hw hK hc i pins s σ H E I hf st hg
    subst hP hw hK
    obtain ⟨N, hle⟩ := st
    have e1 : i = n := Nat.le_antisymm hle hg
    exact pyNext_zipN_end (I.ok.hd hc) S N (fun x m => by rw [hn x m, e1]) hne fun h' hk => ⟨rfl, I.turnedL (t' := s.toks) (ch := z :: TI :: TO :: its) (fun c o hb q => hk c o (fun q' => hb (by simp [q'])) (fun q' => hb (by simp [q'])) q) hf⟩
  self := fun A i s Q E st h => by
    obtain ⟨N, _⟩ := st
    obtain ⟨_, _, e, _⟩ := N.zip
    exact pyIter_z ⟨_, e, rfl⟩ h
def iZipS (K : PySem.W.Frag) (te : TE) : TI := fun σ H R => te σ H fun v H1 => ∃ a rows n, v = .ref a ∧ SqL K H1 a (rows.map V.str) ∧ rows ≠ [] ∧ rows.length ≤ 100000 ∧ (∀ z ∈ rows, z.length = n) ∧ R (JZ n (colV rows)) H1
theorem vals_txts : ∀ {rows : List Str} {us : List Value}, Vals (rows.map V.str) us → ∃ xs : List (Str × Nat), us = txts xs ∧ xs.map (·.1) = rows
  | [], us, r => by
    cases r
    exact ⟨[], rfl, rfl⟩
  | z :: rows, us, r => by
    cases r with
    | cons a r =>
      obtain ⟨t, rfl⟩ := a
      obtain ⟨xs, rfl, e⟩ := vals_txts r
      exact ⟨(z, t) :: xs, rfl, by rw [List.map_cons, e]⟩
theorem pi_zipS {X : Cx} {e : Expr} {te : TE} {tg : Str} {p pos tpos sp_ : Pos} (K : PySem.W.Frag) (hg : Gl X "zip") (hm : X.mg "zip" = none) (he : PE X e te) (hK : X.K = K := by rfl) (hst : starEach [.Starred e sp_] X.env = [(true, eval e X.env)] := by rfl) :
    PI X (.Name tg tpos) (.Call (.Name "zip" p) [.Starred e sp_] [] pos) (iZipS K te) := by
  subst hK
  refine ⟨fun pins s σ H R I h => ?_⟩
  refine Call_ (ld_blt I hg hm PyProof.Rows.boot_zip ?_)
  rw [hst]
  refine PySem.W.ks_call (P := fun _ => True) rfl (fun h _ => ⟨.machine, .inr (.inl rfl), fun A Q E s _ q => wpAny_pure q⟩) (PySem.W.ks_lone ?_)
  refine thn (he.run pins s σ H _ I h) fun v s1 ⟨y, H1, I1, ry, q⟩ => ?_
  obtain ⟨a, rows, n, rfl, hS, hne, hl, hn, q⟩ := q
  obtain rfl : v = Value.ref a := ry
  refine StX.star_lst I1 hS fun us s2 I2 rv => ⟨trivial, ?_⟩
  obtain ⟨xs, rfl, ex⟩ := vals_txts rv
  cases xs with
  | nil => exact absurd ex.symm hne
  | cons x xs =>
    have hlx : (x :: xs).length ≤ 100000 := by rw [← ex, List.length_map] at hl; exact hl
    refine call_zipN x xs hlx fun its z TI TO h' S hni hil N hbig hk => ?_
    have hz : ({ s2 with heap := h' } : Shared).TypeIs (.ref z) "zip" := by
      obtain ⟨_, _, e, _⟩ := N.zip
      exact ⟨_, e, rfl⟩
    refine pyIter_z hz ?_
    have I3 : Inv X pins σ H1 { s2 with heap := h' } := I2.kept (t' := s2.toks) hk
    refine ⟨z, z :: TI :: TO :: its, _, _, H1, rfl, I3, turn_zipN (n := n) S hni (by omega) hil fun y m => ?_, ⟨N, Nat.zero_le _⟩, fun b hb => I2.fpOk (hbig b hb) (I2.hok.fresh (hbig b hb)), by rw [ex]; exact q⟩
    have : y.1 ∈ rows := by rw [← ex]; exact List.mem_map.mpr ⟨y, m, rfl⟩
    exact hn _ this
/-! ### text[::-1], list[::-1] -/
def revS (z : Str) : Str := SX.S z.cps.toList.reverse
theorem revS_is (z : Str) (u : Tok) : Txt.sliceBy z none none (-1, u) = revS z := by
  have e := PyProof.Rows.step_rev_list z u
  have e2 : ((List.range z.length).map fun k => z.cps.getD (z.length - 1 - k) 0) = z.cps.toList.reverse := by
    refine List.ext_getElem ?_ fun k h1 h2 => ?_
    · rw [List.length_map, List.length_range, List.length_reverse, str_len]
    · rw [List.length_map, List.length_range] at h1
      rw [List.getElem_map, List.getElem_range, List.getElem_reverse, ← PyProof.Rows.getD_list, List.getD_eq_getElem?_getD]
      have h3 : z.length - 1 - k < z.cps.toList.length := by rw [str_len]; omega
      rw [List.getElem?_eq_getElem h3, Option.getD_some]
      congr 1
  rw [e2] at e
  rw [← SX.S_tl (Txt.sliceBy z none none (-1, u)), e]
  rfl
def tRevS (te : TE) : TE := fun σ H Q => te σ H fun x H1 => ∃ z : Str, x = .str z ∧ z.length ≤ sizeLine ∧ Q (.str (revS z)) H1
theorem pe_revS {X : Cx} {e : Expr} {te : TE} {k : Nat} {p1 p2 p3 pos : Pos} (he : PE X e te) : PE X (.Subscript e (.Slice none none (some (.UnaryOp .USub (.Constant (.int 1) k p1) p2)) p3) pos) (tRevS te) := by
  refine ⟨fun pins s σ H Q I h => ?_⟩
  refine Subscript_ (thn (he.run pins s σ H _ I h) fun v s1 ⟨x, H1, I1, r1, q1⟩ => ?_)
  obtain ⟨z, ex, hz, q⟩ := q1
  subst ex
  obtain ⟨t, rfl⟩ := r1
  have hst : PO X (some (.UnaryOp .USub (.Constant (.int 1) k p1) p2)) (tPart (tUn (rU fun i => .int (-i)) (tC (.int 1)))) := po_some (pe_un un_neg pe_int)
  refine wpAny_Slice (thn (po_none.run pins s1 σ H1 (fun o H2 => o = none ∧ H2 = H1) I1 ⟨rfl, rfl⟩) fun vl s2 ⟨l, H2, I2, pl, el, e2⟩ => ?_)
  subst el e2
  refine thn (po_none.run pins s2 σ H2 (fun o H3 => o = none ∧ H3 = H2) I2 ⟨rfl, rfl⟩) fun vu s3 ⟨u, H3, I3, pu, eu, e3⟩ => ?_
  subst eu e3
  refine thn (hst.run pins s3 σ H3 (fun o H4 => o = some (-1) ∧ H4 = H3) I3 ⟨1, rfl, -1, rfl, rfl, rfl⟩) fun vs s4 ⟨o, H4, I4, ps, eo, e4⟩ => ?_
  subst eo e4
  have I5 : Inv X pins σ H4 { s4 with heap := s4.heap.push { cls := .type "slice", data := .fields #[vl, vu, vs] } } := I4.kept (t' := s4.toks) fun b ob q => Heap.get?_push_of_some _ q
  obtain ⟨l, rfl, hl⟩ := IsPart.raw pl
  obtain ⟨u, rfl, hu⟩ := IsPart.raw pu
  obtain ⟨o3, rfl, ho⟩ := IsPart.raw ps
  cases l with
  | some l => cases hl
  | none =>
  cases u with
  | some u => cases hu
  | none =>
  cases o3 with
  | none => cases ho
  | some o3 =>
  obtain ⟨n, u⟩ := o3
  have en : n = -1 := Option.some.inj ho
  subst en
  show wpAny (model X.prog X.w) X.A (subscriptTail e (.Slice none none (some (.UnaryOp .USub (.Constant (.int 1) k p1) p2)) p3) (.str z t) (.ref s4.heap.objs.size)) (EP X pins σ Q) X.xe _
  refine tail_any (ops := [.ref s4.heap.objs.size, .str z t]) (typeIs_str _ _ _) F.slot_str_getitem.lookup ?_ (by with_unfolding_all rfl)
  refine wpAny_getItem_str_slice (l := none) (u := none) (st := some (-1, u)) ⟨_, Heap.get?_push_size _ rfl, rfl, rfl⟩ rfl ?_
  have e := revS_is z u
  unfold Txt.sliceBy at e
  have c : ¬ ((((some ((-1 : Int), u)).map (·.1)).getD 1 == 1 && (slicePicked z none none (some (-1, u))).length == z.length) = true) := by
    intro g
    rw [Bool.and_eq_true] at g
    have g1 : ((-1 : Int) == 1) = true := g.1
    exact absurd g1 (by decide)
  rw [if_neg c] at e
  show Made.post (if _ then _ else _) _ _
  rw [if_neg c, e]
  refine ⟨?_, .str _, H4, I5.tok _, ⟨_, rfl⟩, q⟩
  unfold revS
  rw [SX.S_len, List.length_reverse, str_len]
  exact hz
theorem pe_revL2 {X : Cx} {e : Expr} {te : TE} {k : Nat} {p1 p2 p3 pos : Pos} (K : PySem.W.Frag) (he : PE X e te) (hK : X.K = K := by rfl) : PE X (.Subscript e (.Slice none none (some (.UnaryOp .USub (.Constant (.int 1) k p1) p2)) p3) pos) (tRevL K te) := by
  subst hK
  exact pe_revL he
end Z

set_option maxRecDepth 100000
set_option maxHeartbeats 4000000
namespace Z
open PySem PySem.Spec PyProof.Rows L2
/-! ### sets of keys of one kind that can be walked -/
section
variable {P : Program} {w : World} {κ : Type} [DecidableEq κ] [BEq κ] [LawfulBEq κ]
/-- no key is that of both -/
def Apart (kd : KeyKind P w κ) (x y : Int × Value) : Prop := ∀ k, kd.is k x.2 = true → kd.is k y.2 = true → False
theorem Apart.symm {kd : KeyKind P w κ} {x y : Int × Value} (h : Apart kd x y) : Apart kd y x := fun k a b => h k b a
/-- the set at a: its members M, how many n; its places rise, it can be walked -/
def SetG (kd : KeyKind P w κ) (h : Heap) (a : Addr) (M : κ → Bool) (n : Nat) : Prop :=
  ∃ ob es ep tb, (h.get? a = some ob ∧ ob.ExactSet ∧ ob.data = .set es ep tb) ∧ ElemsOf kd es.toList ∧ (∀ k, M k = true ↔ ∃ x ∈ es.toList, kd.is k x.2 = true) ∧
    es.toList.Pairwise (Apart kd) ∧ (es.size < scanBound ∧ tb.fits es.size = true ∧ es.size = n) ∧ Ris tb.place.toList ∧ (w.params.followText "set-order" = true ∨ tb.led = true)
theorem SetG.later {kd : KeyKind P w κ} {h h' : Heap} {a : Addr} {M : κ → Bool} {n : Nat} (z : SetG kd h a M n) (e : ∀ o, h.get? a = some o → h'.get? a = some o) : SetG kd h' a M n := by
  obtain ⟨ob, es, ep, tb, ⟨h1, h2⟩, h3⟩ := z
  exact ⟨ob, es, ep, tb, ⟨e _ h1, h2⟩, h3⟩
theorem SetG.members {kd : KeyKind P w κ} {h : Heap} {a : Addr} {M M' : κ → Bool} {n n' : Nat} (z : SetG kd h a M n) (e : ∀ k, M' k = M k) (en : n' = n) : SetG kd h a M' n' := by
  have q : M' = M := funext e
  rw [q, en]
  exact z
theorem SetG.plain {kd : KeyKind P w κ} {h : Heap} {a : Addr} {M : κ → Bool} {n : Nat} (z : SetG kd h a M n) : h.SetOf kd a M n := by
  obtain ⟨ob, es, ep, tb, ⟨h1, h2, h3⟩, h4, h5, _, ⟨h6, h7, h8⟩, _⟩ := z
  exact ⟨ob, es, ep, tb, h1, h2, h3, h4, h5, h6, h7, h8⟩
abbrev setObj0 (w : World) : Obj := { cls := .type "set", dict := none, data := .set #[] 0 (.fresh 0 0 (!w.params.followText "set-order")) }
theorem SetG.fresh {kd : KeyKind P w κ} {h : Heap} {a : Addr} (e : h.get? a = some (setObj0 w)) : SetG kd h a (fun _ => false) 0 := by
  refine ⟨_, #[], 0, _, ⟨e, ⟨rfl, rfl, rfl⟩, rfl⟩, fun x hx => by simp at hx, fun k => by simp, by simp, ⟨by decide, by rfl, rfl⟩, List.Pairwise.nil, ?_⟩
  cases q : w.params.followText "set-order" with
  | true => exact .inl rfl
  | false => exact .inr rfl
end
section
variable {P : Program} {w : World} {κ : Type} [DecidableEq κ] [BEq κ] [LawfulBEq κ] {A : Around} {E : Value → Shared → Prop} {s : Shared} {a : Addr} {M : κ → Bool} {n : Nat}
theorem setG_tail {kd : KeyKind P w κ} {g : Bool → Sem Unit} (hg : ∀ (b : Bool) (s1 : Shared) (Q' : Unit → Shared → Prop), Q' () s1 → wpAny (model P w) A (g b) Q' E s1)
    {ob : Obj} {es : Array (Int × Value)} {ep : Nat} {tb : SetTable} (h1 : s.heap.get? a = some ob) (h2 : ob.ExactSet) (h3 : ob.data = .set es ep tb)
    {fs : Array (Int × Value)} {tc : SetTable} {M' : κ → Bool} (h4 : ElemsOf kd fs.toList) (h5 : ∀ k, M' k = true ↔ ∃ x ∈ fs.toList, kd.is k x.2 = true) (h6 : fs.toList.Pairwise (Apart kd))
    (h7 : fs.size < scanBound) (h8 : tc.fits fs.size = true) (h9 : Ris tc.place.toList) (h10 : w.params.followText "set-order" = true ∨ tc.led = true) {wd : Bool} {R : Option Bool → Shared → Prop}
    (hR : ∀ h', Heap.SameBut a s.heap h' → SetG kd h' a M' fs.size → R (some true) { s with heap := h' }) :
    wpAny (model P w) A (storeSet a fs tc >>= fun _ => if (!wd && tc.tooFull) = true then (g (relayAll tc fs (SetTable.grown fs.size)).2.2 >>= fun _ => storeSet a (relayAll tc fs (SetTable.grown fs.size)).1 (relayAll tc fs (SetTable.grown fs.size)).2.1 >>= fun _ => pure (some true)) else pure (some true)) R E s := by
  refine wpAny_bind (wpAny_storeSet_of h1 h3 ?_ (fits_of_scanBound h7))
  have k1 := store_at (es' := fs) (t' := tc) h1 h3
  have k2 := Heap.SameBut.update s.heap a (Obj.putSet fs tc)
  by_cases full : (!wd && tc.tooFull) = true
  · rw [if_pos full]
    have e1 := relayAll_perm tc fs (SetTable.grown fs.size)
    have e2 := relayAll_fits tc fs (SetTable.grown fs.size)
    have e3 := relayAll_ris tc fs (SetTable.grown fs.size)
    have e4 := relayAll_led tc fs (SetTable.grown fs.size)
    revert e1 e2 e3 e4
    generalize relayAll tc fs (SetTable.grown fs.size) = L
    obtain ⟨gs, td, gv⟩ := L
    intro e1 e2 e3 e4
    simp only at e1 e2 e3 e4 ⊢
    have ez : gs.size = fs.size := by
      have q := e1.length_eq
      rwa [Array.length_toList, Array.length_toList] at q
    refine wpAny_bind (hg _ _ _ (wpAny_bind (wpAny_storeSet_of k1 rfl ?_ (fits_of_scanBound (by rw [ez]; exact h7)))))
    have k3 := store_at (es' := gs) (t' := td) k1 rfl
    refine wpAny_pure (hR _ (k2.trans (Heap.SameBut.update _ a _)) ⟨_, gs, _, td, ⟨k3, h2, rfl⟩, h4.perm e1, fun k => (h5 k).trans ⟨fun ⟨x, hx, q⟩ => ⟨x, e1.mem_iff.mpr hx, q⟩, fun ⟨x, hx, q⟩ => ⟨x, e1.mem_iff.mp hx, q⟩⟩, ?_, ⟨by rw [ez]; exact h7, e2, ez⟩, e3, h10.imp id fun z => by rw [e4]; exact z⟩)
    exact (e1.pairwise_iff (fun {x y} q => Apart.symm q)).mpr h6
  · rw [if_neg full]
    exact wpAny_pure (hR _ k2 ⟨_, fs, _, tc, ⟨k1, h2, rfl⟩, h4, h5, h6, ⟨h7, h8, rfl⟩, h9, h10⟩)
theorem setG_add {kd : KeyKind P w κ} {k : κ} {x : Value} {Q : Bool → Shared → Prop} (hk : kd.is k x = true) (hx : x.scannable = true) (z : SetG kd s.heap a M n) (room : n + 1 < scanBound)
    (hQ : ∀ h', Heap.SameBut a s.heap h' → SetG kd h' a (fun j => M j || decide (j = k)) (if M k = true then n else n + 1) → Q (!M k) { s with heap := h' }) :
    wpAny (model P w) A (setAddHashed a x (kd.hash k)) Q E s := by
  obtain ⟨ob, es, ep, tb, ⟨h1, h2, h3⟩, h4, h5, h6, ⟨h7, h8, h9⟩, h10, h11⟩ := z
  unfold setAddHashed setAddHashedIn
  refine wpAny_holding (wpAny_bind (wpAny_setState_of h1 h3 h8 ?_))
  dsimp only
  rw [byScan_of hx h7 h4]
  simp only [↓reduceIte]
  unfold setAddByScan
  refine wpAny_bind (wpAny_bind (wpAny_rule (wpAny_bind (wpAny_setScan_of hk h1 h3 h8 h4 ?_))))
  cases hf : List.findIdx? (fun y => kd.is k y.2) es.toList with
  | some j =>
    dsimp only
    obtain ⟨j1, j2, _⟩ := List.findIdx?_eq_some_iff_getElem.mp hf
    have hM : M k = true := (h5 k).mpr ⟨_, List.getElem_mem j1, j2⟩
    refine wpAny_pure (wpAny_pure ?_)
    have q := hQ s.heap (Heap.SameBut.refl a s.heap) ⟨ob, es, ep, tb, ⟨h1, h2, h3⟩, h4, fun i => ?_, h6, ⟨h7, h8, by rw [if_pos hM]; exact h9⟩, h10, h11⟩
    · rw [hM] at q
      exact q
    · rw [Bool.or_eq_true, decide_eq_true_eq, ← h5 i]
      exact ⟨fun y => y.elim id fun e => by rw [e]; exact hM, .inl⟩
  | none =>
    dsimp only
    have no : ∀ y ∈ es.toList, kd.is k y.2 = false := fun y hy => by simpa using List.findIdx?_eq_none_iff.mp hf y hy
    have hM : M k = false := by
      cases q : M k with
      | false => rfl
      | true =>
        obtain ⟨y, hy, q2⟩ := (h5 k).mp q
        rw [no y hy] at q2
        cases q2
    have p1 := layNew_perm tb es (kd.hash k) x
    have p2 := layNew_fits tb es (kd.hash k) x
    have p3 := layNew_ris tb es (kd.hash k) x h10
    have p4 := layNew_led tb es (kd.hash k) x
    revert p1 p2 p3 p4
    generalize layNew tb es (kd.hash k) x = L
    obtain ⟨fs, tc, wd, gv⟩ := L
    intro p1 p2 p3 p4
    simp only at p1 p2 p3 p4 ⊢
    rw [Array.toList_push] at p1
    have el : ElemsOf kd fs.toList := ElemsOf.perm (fun y hy => by
      rcases List.mem_append.mp hy with hy | hy
      · exact h4 y hy
      · rw [List.mem_singleton.mp hy]
        exact ⟨⟨k, hk, rfl⟩, hx⟩) p1
    have mm := mem_push_iff hk h5 p1
    have sz : fs.size = n + 1 := by
      have q := p1.length_eq
      rw [Array.length_toList, List.length_append, Array.length_toList, h9] at q
      exact q
    have pw : fs.toList.Pairwise (Apart kd) := (p1.pairwise_iff (fun {x y} q => Apart.symm q)).mpr (List.pairwise_append.mpr ⟨h6, List.pairwise_singleton _ _, fun y hy u hu => by
      rw [List.mem_singleton.mp hu]
      intro k' a1 a2
      have e := kd.inj _ _ _ a2 hk
      rw [e, no y hy] at a1
      cases a1⟩)
    have bd : fs.size < scanBound := by rw [sz]; exact room
    have ld : w.params.followText "set-order" = true ∨ tc.led = true := h11.imp id fun q => by rw [p4]; exact q
    have done : ∀ h', Heap.SameBut a s.heap h' → SetG kd h' a (fun j => M j || decide (j = k)) fs.size → Q true { s with heap := h' } := fun h' sb r => by
      have q := hQ h' sb
      rw [hM] at q
      exact q (by rw [sz] at r; exact r)
    have gw : ∀ (b : Bool) {s1 : Shared} {Q' : Unit → Shared → Prop}, Q' () s1 → wpAny (model P w) A (match b with | true => rule "set.scan.the-table-gave-way" | false => pure ()) Q' E s1 := fun b s1 Q' q => by
      cases b
      · exact wpAny_pure q
      · exact wpAny_rule q
    refine wpAny_bind (gw _ ?_)
    split
    · refine wpAny_bind ?_
      rw [hashByValue_scannable 8 hx]
      refine wpAny_pure ?_
      refine setG_tail (kd := kd) (M' := fun j => M j || decide (j = k)) (fun b s1 Q' q => by cases b <;> first | exact wpAny_pure q | exact wpAny_rule q) h1 h2 h3 el mm pw bd ?_ ?_ ?_ ?_
      · first | (split <;> first | exact p2 | exact SetTable.fits_plain_off p2) | exact p2
      · first | (split <;> exact p3) | exact p3
      · first | (split <;> exact ld) | exact ld
      · intro h' sb r
        dsimp only
        exact wpAny_pure (done h' sb r)
    · refine wpAny_bind (wpAny_pure ?_)
      simp only [↓reduceIte]
      refine setG_tail (kd := kd) (M' := fun j => M j || decide (j = k)) (fun b s1 Q' q => by cases b <;> first | exact wpAny_pure q | exact wpAny_rule q) h1 h2 h3 el mm pw bd p2 p3 ld ?_
      intro h' sb r
      dsimp only
      exact wpAny_pure (done h' sb r)
/-! ### a set filled by a walk -/
theorem setG_walk {kd : KeyKind P w κ} {I : Addr} {fp wr : List Addr} {G : Array GenState → Array GenState → Prop} {m : Nat} {Pv : Nat → Value → Prop} {St : Nat → Shared → Prop} {R : Result → Shared → Prop}
    (W : WalksS P w A.in1 I fp wr G m Pv St) (D : Addr) (hD : D ∉ fp) (ks : List κ) (hm : m = ks.length) (room : ∀ (h : Heap) (i c : Nat), i < ks.length → c ≤ i → SetG kd h D (fun j => decide (j ∈ ks.take i)) c → c + 1 < scanBound) (val : ∀ i v, Pv i v → ∃ k, ks[i]? = some k ∧ kd.is k v = true ∧ v.scannable = true) :
    ∀ (left i : Nat) (s : Shared), m - i = left → i ≤ m → St i s → (∃ c, c ≤ i ∧ SetG kd s.heap D (fun j => decide (j ∈ ks.take i)) c) →
      (∀ s' c, Moved (D :: wr) G s s' → c ≤ m → SetG kd s'.heap D (fun j => decide (j ∈ ks)) c → R (.ok (.ret .none)) s') →
      codeAny (model P w) A (.builtin "set.update.loop" ⟨[.ref D, .ref I], []⟩) R s := by
  have out : D ∉ wr := fun q => hD (W.sub _ q)
  have more : ∀ b ∈ wr, b ∈ D :: wr := fun b q => List.mem_cons_of_mem _ q
  intro left
  induction left with
  | zero =>
    intro i s e1 e2 st ⟨c, hc, z⟩ hR
    obtain rfl : i = m := by omega
    refine codeAny_builtin PyProof.Rows.F.entry_set_update_loop ?_
    rw [Around.under_plainId PyProof.Rows.F.plain_set_update_loop _]
    change wpAny _ A.in1 (pyNext (.ref I) >>= _) _ _ s
    refine wpAny_bind (W.done s _ _ st fun s' mv => ?_)
    change wpAny _ A.in1 (ret Value.none) _ _ s'
    rw [List.take_of_length_le (by omega)] at z
    exact wpAny_pure (hR s' c (mv.mono more) hc (z.later fun o q => mv.heap D o out q))
  | succ left ih =>
    intro i s e1 e2 st ⟨c, hc, z⟩ hR
    have lt : i < m := by omega
    refine codeAny_builtin PyProof.Rows.F.entry_set_update_loop ?_
    rw [Around.under_plainId PyProof.Rows.F.plain_set_update_loop _]
    change wpAny _ A.in1 (pyNext (.ref I) >>= _) _ _ s
    refine wpAny_bind (W.item i s _ _ lt st fun v s' pv st' mv => ?_)
    obtain ⟨k, hk, isk, sc⟩ := val i v pv
    have z' := z.later (h' := s'.heap) fun o q => mv.heap D o out q
    change wpAny _ A.in1 (holding [v] (setAdd D v) >>= _) _ _ s'
    refine wpAny_bind (wpAny_holding ?_)
    unfold setAdd
    refine wpAny_holding (wpAny_bind (kd.pyHash isk ?_))
    refine setG_add (s := { s' with toks := s'.toks + 1 }) isk sc z' (room _ i c (by omega) hc z') fun h' sb z2 => ?_
    have z3 : SetG kd h' D (fun j => decide (j ∈ ks.take (i + 1))) (if decide (k ∈ ks.take i) = true then c else c + 1) := z2.members (fun j => by
      rw [List.take_add_one, hk]
      simp [List.mem_append]) rfl
    have hc3 : (if decide (k ∈ ks.take i) = true then c else c + 1) ≤ i + 1 := by split <;> omega
    refine wpAny_pure ⟨plainId_quiet PyProof.Rows.F.plain_set_update_loop _, ih (i + 1) _ (by omega) lt (W.frame _ s' _ _ st' (Nat.le_succ _) fun b hb o q => ?_) ⟨_, hc3, z3⟩ fun s2 c2 mv2 hc2 zz => ?_⟩
    · rw [sb.2 b fun q2 => hD (by rw [← q2]; exact hb)]
      exact q
    · refine hR s2 c2 (Moved.trans W.gtrans ((mv.mono more).then_heap (Nat.le_succ _) fun b o hb q => ?_) mv2) hc2 zz
      rw [sb.2 b fun q2 => hb (by rw [q2]; exact List.mem_cons_self)]
      exact q
end
end Z

set_option maxRecDepth 100000
set_option maxHeartbeats 4000000
namespace Z
open PySem PySem.Spec PyProof.Rows L2
section
variable {P : Program} {w : World} {κ : Type} [DecidableEq κ] [BEq κ] [LawfulBEq κ] {A : Around} {E : Value → Shared → Prop} {s : Shared}
/-- v begins a walk of m items, whatever is new; a new object is its iterator -/
def Begun (P : Program) (w : World) (h0 : Heap) (v : Value) (m : Nat) (Pv : Nat → Value → Prop) : Prop :=
  ∀ (A' : Around) (E' : Value → Shared → Prop) (s1 : Shared) (Q : Value → Shared → Prop), (∀ b o, h0.get? b = some o → s1.heap.get? b = some o) → h0.objs.size ≤ s1.heap.objs.size →
    (∀ (o : Obj) (fp : List Addr) (St : Nat → Heap → Prop), (∀ A2 : Around, A2.handled = none → Walks P w A2 s1.heap.objs.size fp [s1.heap.objs.size] m Pv St) → (∀ b ∈ fp, b = s1.heap.objs.size ∨ b < h0.objs.size) → St 0 (s1.heap.push o) →
      Q (.ref s1.heap.objs.size) { s1 with heap := s1.heap.push o }) → wpAny (model P w) A' (pyIter v) Q E' s1
theorem begun_list {l : Addr} {items : Array Value} (hl : s.heap.IsList l items) : Begun P w s.heap (.ref l) items.size (fun i v => items[i]? = some v) := by
  intro A' E' s1 Q k z hQ
  have lt : l < s.heap.objs.size := by obtain ⟨_, e, _⟩ := hl; exact Heap.lt_size e
  have hl1 : s1.heap.IsList l items := hl.at fun o e => k l o e
  refine wpAny_pyIter_list hl1 (hQ _ [s1.heap.objs.size, l] _ (fun A2 h2 => Walks.list h2 _ l (Nat.ne_of_lt (Nat.lt_of_lt_of_le lt z)) items) (fun b hb => ?_) ⟨⟨_, Heap.get?_push_size _ rfl, rfl, rfl⟩, hl1.push _⟩)
  have e' : b = s1.heap.objs.size ∨ b = l := by simpa using hb
  rcases e' with q | q
  · exact .inl q
  · exact .inr (by rw [q]; exact lt)
theorem begun_text (x : Str) (t : Tok) : Begun P w s.heap (.str x t) x.cps.size (SignAt x) := by
  intro A' E' s1 Q k z hQ
  refine wpAny_pyIter_str fun o St W st => hQ o _ St W (fun b hb => .inl (by simpa using hb)) st
/-- set(v), v walked -/
theorem call_setW {kd : KeyKind P w κ} {v : Value} {T : String} {m : Nat} {Pv : Nat → Value → Prop} (ks : List κ) {Q : Value → Shared → Prop} (hh : A.handled = none)
    (ty : ∀ s1 : Shared, (∀ b o, s.heap.get? b = some o → s1.heap.get? b = some o) → s1.TypeIs v T) (n1 : isSubtype (.type T) (.type "set") = pure false) (n2 : isSubtype (.type T) (.type "frozenset") = pure false) (n3 : (Value.type T == Value.type "dict") = false)
    (B : Begun P w s.heap v m Pv) (hm : m = ks.length) (room : ∀ (h : Heap) (i c : Nat), i < ks.length → c ≤ i → SetG kd h s.heap.objs.size (fun j => decide (j ∈ ks.take i)) c → c + 1 < scanBound) (val : ∀ i u, Pv i u → ∃ k, ks[i]? = some k ∧ kd.is k u = true ∧ u.scannable = true)
    (hQ : ∀ (h' : Heap) (tk c : Nat), SetG kd h' s.heap.objs.size (fun j => decide (j ∈ ks)) c → c ≤ ks.length → (∀ b o, s.heap.get? b = some o → h'.get? b = some o) → Q (.ref s.heap.objs.size) { s with heap := h', toks := tk }) :
    wpAny (model P w) A (call (.type "set") [v]) Q E s := by
  obtain ⟨c0, tl0, q1⟩ := PySem.F.called_set.mro
  have q2 := PySem.F.called_set.made
  have q3 := PySem.F.called_set.sub
  refine wpAny_call (codeAny_of_tree ?_)
  change wpAny _ _ (callAny (.type "set") _) _ _ _
  refine wpAny_pure ⟨Code.quiet_builtin _ (by decide +kernel), codeAny_builtin PySem.F.entry_type_call ?_⟩
  rw [Around.under_plain (weight_type_call_type "set" [v] []) rfl]
  have q4 := PySem.F.called_set.notType
  have q5 := PySem.F.called_set.canCreate
  have q6 := PySem.F.typeCall_set_1 v
  repeat (any_goals (first | assumption | wp_step))
  refine codeAny_mono (code_set_led1 v (E := E) (Q₁ := fun ob s1 => ob = .ref s.heap.objs.size ∧ s1 = { s with heap := s.heap.push (setObj0 w) }) ⟨rfl, rfl⟩) fun r s1 hr => ?_
  cases r with
  | error e => exact hr
  | ok fl =>
    cases fl with
    | ret ob =>
      obtain ⟨rfl, rfl⟩ := hr
      have at0 : (s.heap.push (setObj0 w)).get? s.heap.objs.size = some (setObj0 w) := Heap.get?_push_size _ rfl
      have ty0 : Shared.TypeIs { s with heap := s.heap.push (setObj0 w) } (.ref s.heap.objs.size) "set" := ⟨_, at0, rfl⟩
      have q7 := PySem.F.called_set.init.lookup
      have q8 := PySem.F.called_set.init.bind (.ref s.heap.objs.size)
      repeat (any_goals (first | assumption | wp_step))
      refine codeAny_mono (codeAny_call_builtin (R := wants (fun r s2 => r = .none ∧ ∃ h' tk c, s2 = { s with heap := h', toks := tk } ∧ SetG kd h' s.heap.objs.size (fun j => decide (j ∈ ks)) c ∧ c ≤ ks.length ∧
          (∀ b o, s.heap.get? b = some o → h'.get? b = some o)) E) PySem.F.called_set.init.plain PySem.F.entry_set_init (check_set_init_1 ty0 ?_)) fun r2 s2 hr2 => ?_
      · have up : ∀ b o, s.heap.get? b = some o → (s.heap.push (setObj0 w)).get? b = some o := fun b o e => Heap.get?_push_of_some _ e
        have tyv := ty { s with heap := s.heap.push (setObj0 w) } up
        have hz : (s.heap.push (setObj0 w)).objs.size = s.heap.objs.size + 1 := Heap.size_push ..
        unfold Builtin.«set.__init__» noKeywords Builtin.Frozenset.updateFrom
        generalize hPI : pyIter = PI
        wp_walk
        subst hPI
        have hh3 : A.in1.in1.in1.handled = none := by simp [hh]
        refine B _ _ _ _ up (by rw [show ({ s with heap := s.heap.push (setObj0 w) } : Shared).heap.objs.size = s.heap.objs.size + 1 from hz]; exact Nat.le_succ _) fun o fp St W hfp st => ?_
        refine wpAny_bind (wpAny_runValue ?_)
        have nI : (s.heap.push (setObj0 w)).objs.size ≠ s.heap.objs.size := by rw [hz]; exact Nat.succ_ne_self _
        refine setG_walk (W _ hh3).toS s.heap.objs.size (fun q => ?_) ks hm room val (m - 0) 0 _ rfl (Nat.zero_le _) st ⟨0, Nat.le_refl _, SetG.members (SetG.fresh (Heap.get?_push_of_some _ at0)) (fun k => by simp) rfl⟩ ?_
        · rcases hfp _ q with q | q
          · exact nI q.symm
          · exact Nat.lt_irrefl _ q
        · intro s3 c3 mv hc z
          obtain ⟨h', g3, d3, tk3, os3⟩ := s3
          have e1 : g3 = s.gens := mv.gens
          have e2 : d3 = s.drawn := mv.drawn
          have e3 : os3 = s.os := mv.os
          subst e1 e2 e3
          change wpAny _ _ _ _ _ _
          refine wpAny_pure ?_
          change wpAny _ _ (ret Value.none) _ _ _
          refine wpAny_pure ⟨rfl, h', tk3, c3, rfl, z, by omega, fun b o e => ?_⟩
          have lt := Heap.lt_size e
          refine mv.heap b o ?_ (Heap.get?_push_of_some _ (Heap.get?_push_of_some _ e))
          intro q
          have e' : b = s.heap.objs.size ∨ b = (s.heap.push (setObj0 w)).objs.size := by simpa using q
          rcases e' with q | q
          · rw [q] at lt
            exact Nat.lt_irrefl _ lt
          · rw [q, hz] at lt
            exact Nat.lt_irrefl _ (Nat.lt_of_succ_lt lt)
      · cases r2 with
        | error e => exact hr2
        | ok fl2 =>
          cases fl2 with
          | ret r =>
            obtain ⟨rfl, h', tk, c', rfl, z1, z2, z3⟩ := hr2
            repeat (any_goals (first | assumption | wp_step))
            exact hQ _ _ _ z1 z2 z3
          | _ => exact hr2.elim
    | _ => exact hr.elim
/-! ### sets of texts -/
theorem SetG.keys {h : Heap} {a : Addr} {M : Str → Bool} {n : Nat} (z : SetG (PySem.strKind P w) h a M n) : ∃ l : List Str, l.Nodup ∧ l.length = n ∧ ∀ k, M k = true ↔ k ∈ l := by
  obtain ⟨ob, es, ep, tb, _, h4, h5, h6, ⟨_, _, h8⟩, _⟩ := z
  have key : ∀ x ∈ es.toList, ∃ k t, x.2 = Value.str k t := fun x hx => by
    obtain ⟨⟨k, hk, _⟩, _⟩ := h4 x hx
    obtain ⟨t, e⟩ := Value.isStrOf_shape hk
    exact ⟨k, t, e⟩
  have gen : ∀ l : List (Int × Value), (∀ x ∈ l, ∃ k t, x.2 = Value.str k t) → l.Pairwise (Apart (PySem.strKind P w)) → ∃ ks : List Str, ks.Nodup ∧ ks.length = l.length ∧ ∀ k, k ∈ ks ↔ ∃ x ∈ l, (PySem.strKind P w).is k x.2 = true := by
    intro l
    induction l with
    | nil => intro _ _; exact ⟨[], List.nodup_nil, rfl, fun k => by simp⟩
    | cons x l ih =>
      intro hx hp
      obtain ⟨p1, p2⟩ := List.pairwise_cons.mp hp
      obtain ⟨ks, a1, a2, a3⟩ := ih (fun y hy => hx y (List.mem_cons_of_mem _ hy)) p2
      obtain ⟨k, t, e⟩ := hx x List.mem_cons_self
      have is1 : ∀ k', (PySem.strKind P w).is k' x.2 = true ↔ k' = k := fun k' => by
        rw [e]
        refine ⟨fun q => (PySem.strKind P w).inj _ _ _ q (PySem.strKind_is P w k t), fun q => by rw [q]; exact PySem.strKind_is P w k t⟩
      refine ⟨k :: ks, List.nodup_cons.mpr ⟨fun m => ?_, a1⟩, by rw [List.length_cons, List.length_cons, a2], fun k' => ?_⟩
      · obtain ⟨y, hy, q⟩ := (a3 k).mp m
        exact p1 y hy k ((is1 k).mpr rfl) q
      · rw [List.mem_cons, a3 k']
        refine ⟨fun q => ?_, fun ⟨y, hy, q⟩ => ?_⟩
        · rcases q with q | ⟨y, hy, q⟩
          · exact ⟨x, List.mem_cons_self, (is1 k').mpr q⟩
          · exact ⟨y, List.mem_cons_of_mem _ hy, q⟩
        · rcases List.mem_cons.mp hy with hy | hy
          · rw [hy] at q
            exact .inl ((is1 k').mp q)
          · exact .inr ⟨y, hy, q⟩
  obtain ⟨ks, a1, a2, a3⟩ := gen es.toList key h6
  exact ⟨ks, a1, by rw [a2, Array.length_toList, h8], fun k => (h5 k).trans (a3 k).symm⟩
end
theorem perm_of_sub {α : Type} [BEq α] [LawfulBEq α] : ∀ (l m : List α), l.Nodup → (∀ x ∈ l, x ∈ m) → m.length ≤ l.length → l.Perm m
  | [], m, _, _, h => by
    rw [List.eq_nil_of_length_eq_zero (Nat.le_zero.mp h)]
  | x :: l, m, nd, sub, h => by
    obtain ⟨n1, n2⟩ := List.nodup_cons.mp nd
    have hx := sub x List.mem_cons_self
    have lz := List.length_erase_of_mem hx
    have q := perm_of_sub l (m.erase x) n2 (fun y hy => (List.mem_erase_of_ne (fun e => n1 (by rw [← e]; exact hy))).mpr (sub y (List.mem_cons_of_mem _ hy))) (by rw [List.length_cons] at h; omega)
    exact (q.cons x).trans (List.perm_cons_erase hx).symm
theorem same_len {α : Type} [BEq α] [LawfulBEq α] {l m : List α} (h1 : l.Nodup) (h2 : m.Nodup) (e : ∀ x, x ∈ l ↔ x ∈ m) : l.length = m.length := by
  by_cases h : m.length ≤ l.length
  · exact (perm_of_sub l m h1 (fun x q => (e x).mp q) h).length_eq
  · exact ((perm_of_sub m l h2 (fun x q => (e x).mpr q) (by omega)).length_eq).symm
/-- the set of texts at a -/
def SetT (P : Program) (w : World) (a : Addr) (M : Str → Bool) (n : Nat) : HO := .ext fun h => SetG (PySem.strKind P w) h a M n
section
variable {X : Cx}
theorem setT_new {w : World} {P : Program} {H : Hp} {h : Heap} {a : Addr} {M : Str → Bool} {n : Nat} (z : SetG (PySem.strKind P w) h a M n) : ObjOk P w H h a (SetT P w a M n) := by
  have ⟨ob, _, _, _, ⟨e, _⟩, _⟩ := z
  exact ⟨z, ⟨ob, e⟩, fun _ _ p k => SetG.later p k⟩
theorem setT_get {pins : List (Addr × Obj)} {σ : L2.St} {H : Hp} {s : Shared} {a : Addr} {M : Str → Bool} {n : Nat} (I : Inv X pins σ H s) (e : H a = some (SetT X.prog X.w a M n)) : SetG (PySem.strKind X.prog X.w) s.heap a M n := (I.hok a _ e).1
/-- set(texts), set(text) -/
def rSetTx (P : Program) (w : World) (K : PySem.W.Frag) : List V → Hp → VK → Prop := fun vs H Q => ∃ ks : List Str, ((∃ l, vs = [.ref l] ∧ SqL K H l (ks.map V.str)) ∨ (∃ x : Str, vs = [.str x] ∧ ks = x.cps.toList.map one)) ∧ (ks.length + 1 < scanBound ∨ ∃ U : List Str, (∀ k ∈ ks, k ∈ U) ∧ U.length + 1 < scanBound) ∧
  ∀ (p : Addr) (n : Nat), H p = none → Q (.ref p) (upd H p (SetT P w p (fun k => decide (k ∈ ks)) n))
theorem call_setTx (P : Program) (w : World) (K : PySem.W.Frag) (hP : X.prog = P := by rfl) (hw : X.w = w := by rfl) (hK : X.K = K := by rfl) (hc : X.calm = true := by rfl) : CallR X (.type "set") (rSetTx P w K) := by
  subst hP hw hK
  intro pins s σ H vs us Q I r h
  obtain ⟨ks, h1, room, q⟩ := h
  have room : ∀ (h : Heap) (i c : Nat), i < ks.length → c ≤ i → SetG (PySem.strKind X.prog X.w) h s.heap.objs.size (fun j => decide (j ∈ ks.take i)) c → c + 1 < scanBound := fun h i c hi hc z => by
    rcases room with r | ⟨U, hU, r⟩
    · omega
    · obtain ⟨l, l1, l2, l3⟩ := z.keys
      have sub : ∀ y ∈ l, y ∈ U := fun y hy => hU y (List.mem_of_mem_take (of_decide_eq_true ((l3 y).mpr hy)))
      by_cases g : U.length ≤ l.length
      · have := (perm_of_sub l U l1 sub g).length_eq
        omega
      · omega
  have fin : ∀ (h' : Heap) (tk c : Nat), SetG (PySem.strKind X.prog X.w) h' s.heap.objs.size (fun j => decide (j ∈ ks)) c → c ≤ ks.length → (∀ b o, s.heap.get? b = some o → h'.get? b = some o) → EP X pins σ Q (.ref s.heap.objs.size) { s with heap := h', toks := tk } :=
    fun h' tk c z _ up => ⟨.ref _, _, I.laid (t' := tk) up (Nat.le_refl _) (setT_new z), rfl, q _ c (I.hok.fresh (Nat.le_refl _))⟩
  rcases h1 with ⟨l, rfl, hq⟩ | ⟨x, rfl, rfl⟩
  · obtain rfl := Vals.ref1 r
    obtain ⟨its, rv, pl, _⟩ := I.list hq
    have ln := rv.length
    rw [List.length_map] at ln
    refine call_setW ks (I.ok.hd hc) (fun s1 up => (show s1.TypeIs (.ref l) "list" from by obtain ⟨o, e, c⟩ := pl.isList.typeIs; exact ⟨o, up _ _ e, c⟩)) PySem.F.sub_list_set PySem.F.sub_list_frozenset (by decide) (begun_list pl.isList) (by rw [List.size_toArray, ln]) room (fun i u hu => ?_) fin
    have hu' : its[i]? = some u := by simpa using hu
    have hi : i < ks.length := by
      have := (List.getElem?_eq_some_iff.mp hu').1
      omega
    obtain ⟨u2, e2, t, r2⟩ := rv.get (i := i) (x := .str ks[i]) (by rw [List.getElem?_map, List.getElem?_eq_getElem hi]; rfl)
    rw [hu'] at e2
    cases e2
    subst r2
    exact ⟨_, List.getElem?_eq_getElem hi, PySem.strKind_is _ _ _ _, rfl⟩
  · obtain ⟨u, rfl, t, rfl⟩ := vals1 r
    refine call_setW (x.cps.toList.map one) (I.ok.hd hc) (fun s1 up => rfl) ?_ ?_ (by decide) (begun_text x t) (by rw [List.length_map, Array.length_toList]) room (fun i u hu => ?_) fin
    · rw [isSubtype_type]; kernel_rfl
    · rw [isSubtype_type]; kernel_rfl
    · obtain ⟨c, t2, e, rfl⟩ := hu
      refine ⟨one c, ?_, PySem.strKind_is _ _ _ _, rfl⟩
      rw [List.getElem?_map, Array.getElem?_toList, e]
      rfl

/-- len of such a set -/
def rLenT (P : Program) (w : World) : List V → Hp → VK → Prop := fun vs H Q => ∃ (p : Addr) (M : Str → Bool) (n : Nat), vs = [.ref p] ∧ H p = some (SetT P w p M n) ∧
  ∀ l : List Str, l.Nodup → l.length = n → (∀ k, M k = true ↔ k ∈ l) → Q (.int (n : Int)) H
theorem call_lenT (P : Program) (w : World) (hP : X.prog = P := by rfl) (hw : X.w = w := by rfl) : CallR X (.builtin "len") (rLenT P w) := by
  subst hP hw
  intro pins s σ H vs us Q I r h
  obtain ⟨p, M, n, rfl, hp, q⟩ := h
  obtain rfl := Vals.ref1 r
  have z := setT_get I hp
  obtain ⟨l, l1, l2, l3⟩ := z.keys
  obtain ⟨ob, es, ep, tb, ⟨h1, h2, h3⟩, _, _, _, ⟨h7, h8, h9⟩, _⟩ := z
  refine call_len_set h1 h2 h3 h8 (by unfold scanBound at h7; omega) ⟨.int (n : Int), H, I.kept (t' := s.toks + 1 + 1) fun _ _ e => e, ⟨_, by rw [h9]⟩, q l l1 l2 l3⟩
/-- sorted of such a set of fewer than 64 -/
def rSortT (P : Program) (w : World) : List V → Hp → VK → Prop := fun vs H Q => ∃ (p : Addr) (M : Str → Bool) (n : Nat), vs = [.ref p] ∧ H p = some (SetT P w p M n) ∧
  (∀ l : List Str, l.Nodup → l.length = n → (∀ k, M k = true ↔ k ∈ l) → l.length < 64) ∧
  ∀ (l : List Str) (D : Addr), l.Nodup → (∀ k, M k = true ↔ k ∈ l) → sortedS l = true → H D = none → Q (.ref D) (upd H D (.lst (l.map V.str)))
theorem call_sortT (P : Program) (w : World) (hP : X.prog = P := by rfl) (hw : X.w = w := by rfl) (hc : X.calm = true := by rfl) : CallR X (.builtin "sorted") (rSortT P w) := by
  subst hP hw
  intro pins s σ H vs us Q I r h
  obtain ⟨p, M, n, rfl, hp, few, q⟩ := h
  obtain rfl := Vals.ref1 r
  have z := setT_get I hp
  obtain ⟨l, l1, l2, l3⟩ := z.keys
  have h64 := few l l1 l2 l3
  obtain ⟨ob, es, ep, tb, ⟨h1, h2, h3⟩, h4, h5, h6, ⟨h7, h8, h9⟩, h10, h11⟩ := z
  refine Calls.call_function_entry kind_sorted plain_sorted entry_sorted (args_sorted1 _) ?_
  unfold Builtin.«sorted»
  refine wpAny_bind (m := checkCount "sorted" 1 1 _) (wpAny_pure ?_)
  refine wpAny_bind (collect_set (A := X.A.in1) (I.ok.hd hc) ⟨ob, h1, h2.1, h3⟩ h8 h7 h10 h11 fun s1 vs k1 hz g1 o1 pm => ?_)
  have vl : vs.length = n := by rw [pm.length_eq, List.length_map, Array.length_toList]; exact h9
  have hS : StrsAre vs (vs.map strOf) := by
    have gen : ∀ us : List Value, (∀ u ∈ us, ∃ k t, u = Value.str k t) → StrsAre us (us.map strOf) := by
      intro us
      induction us with
      | nil => intro _; exact .nil
      | cons u us ih =>
        intro hu
        obtain ⟨k, t, rfl⟩ := hu u List.mem_cons_self
        exact .cons k t (ih fun v hv => hu v (List.mem_cons_of_mem _ hv))
    refine gen vs fun v hv => ?_
    obtain ⟨x, hx, e⟩ := List.mem_map.mp (pm.mem_iff.mp hv)
    obtain ⟨⟨k, hk, _⟩, _⟩ := h4 x hx
    obtain ⟨t, e2⟩ := Value.isStrOf_shape hk
    exact ⟨k, t, by rw [← e, e2]⟩
  have mem : ∀ k, M k = true ↔ k ∈ vs.map strOf := fun k => by
    rw [h5 k, List.mem_map]
    refine ⟨fun ⟨x, hx, q⟩ => ?_, fun ⟨v, hv, e⟩ => ?_⟩
    · obtain ⟨t, e2⟩ := Value.isStrOf_shape q
      exact ⟨x.2, pm.mem_iff.mpr (List.mem_map.mpr ⟨x, hx, rfl⟩), by rw [e2]; rfl⟩
    · obtain ⟨x, hx, e2⟩ := List.mem_map.mp (pm.mem_iff.mp hv)
      obtain ⟨⟨k2, hk, _⟩, _⟩ := h4 x hx
      obtain ⟨t, e3⟩ := Value.isStrOf_shape hk
      refine ⟨x, hx, ?_⟩
      have e4 : k2 = k := by rw [← e, ← e2, e3]; rfl
      rw [← e4]
      exact hk
  have nd : (vs.map strOf).Nodup := by
    have a : (vs.map strOf).length = l.length := by rw [List.length_map, vl, l2]
    have sub : ∀ k ∈ l, k ∈ vs.map strOf := fun k hk => (mem k).mp ((l3 k).mpr hk)
    exact (perm_of_sub l _ l1 sub (by omega)).nodup_iff.mp l1
  refine wpAny_bind (wpAny_newList ?_ (by rw [vl, sizeLine_eq]; omega))
  have hL : (s1.heap.push (seqObj "list" vs.toArray 0)).get? s1.heap.objs.size = some (seqObj "list" vs.toArray 0) := Heap.get?_push_size _ rfl
  refine wpAny_bind (wpAny_holding (wpAny_call_entry slot_list_sort ⟨_, hL, rfl⟩ entry_list_sort (list_sort_treeK strKind_oneLt hL hS.keysOf (fun v1 v2 rest e => keyKind_strs (by rw [← e]; exact hS)) (by rw [vl, ← l2]; exact h64) fun st' hp hs => ⟨_, rfl, ?_⟩) (args_list_sort _)))
  obtain ⟨ys, a1, a2, a3⟩ := sorted_out_str hS hp hs
  obtain ⟨c, hc2⟩ := sortedHeap_at (vs := vs) (out := (arrOf st').map (·.2)) hL
  refine wpAny_pure ⟨_, rfl, ?_⟩
  have ln : (ys.map V.str).length ≤ sizeLine := by rw [List.length_map, a2.length_eq, List.length_map, vl, sizeLine_eq]; omega
  have hn : H s1.heap.objs.size = none := I.hok.fresh hz
  have kept : ∀ b u, s.heap.get? b = some u → (sortedHeap (s1.heap.push (seqObj "list" vs.toArray 0)) s1.heap.objs.size vs ((arrOf st').map (·.2))).get? b = some u := fun b u e => by
    have q2 := k1 b u e
    have lt := Heap.lt_size q2
    rw [sortedHeap_old (Nat.ne_of_lt lt) (by rw [size_push']; exact Nat.lt_succ_of_lt lt)]
    exact Heap.get?_push_of_some _ q2
  have J : Inv X pins σ (upd H s1.heap.objs.size (.lst (ys.map V.str))) { s with heap := sortedHeap (s1.heap.push (seqObj "list" vs.toArray 0)) s1.heap.objs.size vs ((arrOf st').map (·.2)), gens := s1.gens, drawn := s1.drawn, toks := s1.toks } :=
    I.call (ch := []) (Un.laid kept hz hn) (I.hok.laid kept hz ⟨ln, _, c, vals_of_strs a1, hc2⟩) (by rw [g1]; exact I.bare) (fun _ z => nomatch z)
  refine ⟨.ref s1.heap.objs.size, _, ?_, rfl, q ys _ (a2.nodup_iff.mpr nd) (fun k => by rw [mem k, a2.mem_iff]) a3 hn⟩
  rcases s1 with ⟨h', g', d', t', o'⟩
  cases o1
  exact J
end
end Z

set_option maxRecDepth 100000
set_option maxHeartbeats 4000000
namespace Z
open PySem PySem.Spec PyProof.Rows L2
/-! ### more comprehensions: over range without draws, over a tuple with draws -/
theorem comp_rngP {ta : TA} {te : TE} {vs : List Nat} {j : Nat} {σ : L2.St} {H : Hp} {Q : VK} (n : Nat) (g : Nat → V) (hz : n ≤ 100000) (h0 : ∀ R : List V → Hp → Prop, R [.int (n : Int)] H → ta σ H R)
    (he : ∀ i, i < n → ∀ H', Same H H' → ∀ Q' : VK, (∀ H'', Same H' H'' → Q' (g i) H'') → te ((σ.set j none).set j (some (.int (i : Int)))) H' Q')
    (k : ∀ D H', H D = none → Same H H' → H' D = some (.lst ((List.range n).map g)) → Q (.ref D) H') (hv : vs = [j] := by rfl) : tLc (iRng1 ta) (gName j) tYes te vs σ H Q := by
  unfold tLc iRng1
  refine h0 _ ⟨n, rfl, by omega, by omega, ?_⟩
  rw [Int.toNat_natCast]
  refine lcM (G := fun _ => True) (hv := hv) walk_rangeV (fun v => match v with | .int i => g i.toNat | v => v) (fun _ _ => trivial) (by rw [rangeV_len]; exact hz) ?_ ?_
  · intro x hx H' s' Q' q
    obtain ⟨i, hi⟩ := List.getElem?_of_mem hx
    obtain ⟨h1, rfl⟩ := rangeV_get hi
    rw [Int.zero_add] at q ⊢
    exact he i h1 H' s' Q' q
  · intro D H' h1 h2 h3
    refine k D H' h1 h2 ?_
    rw [h3]
    unfold rangeV
    rw [List.map_map]
    congr 2
    refine List.map_congr_left fun i _ => ?_
    show g ((0 : Int) + (i : Int)).toNat = g i
    rw [Int.zero_add, Int.toNat_natCast]
theorem comp_tupD {K : PySem.W.Frag} {ω : Bg} {ta te : TE} {vs : List Nat} {j : Nat} {σ : L2.St} {H : Hp} {Q : VK} (xs : List V) (B : Addr → Bool) (wd : Wd K B ω H) (P : Nat → V → Hp → Prop) (mono : ∀ i y G1 G2, Same G1 G2 → P i y G1 → P i y G2) (hz : xs.length ≤ 100000)
    (h0 : ∀ R : VK, (∀ t, H t = none → R (.ref t) (upd H t (.tup xs))) → ta σ H R)
    (hs : ∀ i x B' H', xs[i]? = some x → (∀ a, B a = true → B' a = true) → Same (hd B H) (hd B' H') → Wd K B' ω H' → ∀ Q' : VK, (∀ y H4, Bag K H4 ω → Go ω.b H' H4 → P i y (hd B' H4) → Q' y H4) → te ((σ.set j none).set j (some x)) H' Q')
    (k : ∀ D acc H', H D = none → acc.length = xs.length → (∀ (i : Nat) y, acc[i]? = some y → P i y (hd (hide D B) H')) → Wd K B ω H' → Go ω.b H H' → H' D = some (.lst acc) → Q (.ref D) H') (hv : vs = [j] := by rfl) : tLc (iTup K ta) (gName j) tYes te vs σ H Q := by
  unfold tLc iTup
  refine h0 _ fun t ht => ⟨t, rfl, ⟨_, st_of upd_same⟩, ?_⟩
  have s := same_new (o := .tup xs) ht
  exact lcE (G := fun H' => SqT K H' t xs) (hv := hv) walk_tup B (wd.same s) P mono (fun H' s' => st_of (hd_same _ _ _ _ (s' _ _ (hd_of (wd.off ht) upd_same)))) hz (fun i x B' H' hx hB s' w' => hs i x B' H' hx hB ((Same.hd s).trans s') w')
    fun D acc H' hD a b c d e => k D acc H' (s.free hD) a b c ((Go.of s).trans d) e
/-- a comprehension over range(n), n drawn first -/
theorem comp_rngT {K : PySem.W.Frag} {ω : Bg} {ta : TA} {te : TE} {vs : List Nat} {j : Nat} {σ : L2.St} {H : Hp} {Q : VK} (hb : Bag K H ω) (Pn : Nat → Prop) (P : Nat → V → Hp → Prop) (mono : ∀ i y G1 G2, Same G1 G2 → P i y G1 → P i y G2) (hz : ∀ n, Pn n → n ≤ 100000)
    (h0 : ∀ R : List V → Hp → Prop, (∀ (n : Nat) H1, Pn n → Bag K H1 ω → Go ω.b H H1 → R [.int (n : Int)] H1) → ta σ H R)
    (hs : ∀ n (i : Nat) B' H', Pn n → i < n → Same (hd (fun q => decide (q = ω.b)) H) (hd B' H') → Wd K B' ω H' → ∀ Q' : VK, (∀ y H4, Bag K H4 ω → Go ω.b H' H4 → P i y (hd B' H4) → Q' y H4) → te ((σ.set j none).set j (some (.int (i : Int)))) H' Q')
    (k : ∀ n D acc H', Pn n → H D = none → acc.length = n → (∀ (i : Nat) y, acc[i]? = some y → P i y (hd (hide D fun q => decide (q = ω.b)) H')) → Bag K H' ω → Go ω.b H H' → H' D = some (.lst acc) → Q (.ref D) H') (hv : vs = [j] := by rfl) : tLc (iRng1 ta) (gName j) tYes te vs σ H Q := by
  unfold tLc iRng1
  refine h0 _ fun n H1 pn g1 go1 => ⟨n, rfl, ?_, ?_, ?_⟩
  · have := hz n pn
    omega
  · have := hz n pn
    omega
  rw [Int.toNat_natCast]
  refine lcE (G := fun _ => True) (hv := hv) walk_rangeV (fun q => decide (q = ω.b)) (Wd.one g1) P mono (fun _ _ => trivial) (by rw [rangeV_len]; exact hz n pn) ?_ ?_
  · intro i x B' H' hx hB s' w' Q' q
    obtain ⟨h1, rfl⟩ := rangeV_get hx
    rw [Int.zero_add]
    exact hs n i B' H' pn h1 ((go1.hd (decide_eq_true rfl)).trans s') w' Q' q
  · intro D acc H' a b c d e f
    rw [rangeV_len] at b
    exact k n D acc H' pn (free_go g1 go1 a) b c d.bag (go1.trans e) f
end Z

set_option maxRecDepth 100000
set_option maxHeartbeats 4000000
namespace Z
open PySem PySem.Spec PyProof.Rows L2
/-! ### the top, told by any looks at the written part -/
abbrev Fz : Type := PySem.W.Frag → Bool
def obsZ (fz : List Fz) (fn : List He.DefD) (K : PySem.W.Frag) : He.AlD := ((fz.all fun f => f K) && fn.all fun d => d.ok K, fn.map fun d => He.fnW K d.at_)
def SaysZ (fz : List Fz) (fn : List He.DefD) (K : PySem.W.Frag) : Prop := obsZ fz fn K = He.valD fn
def obsZG (n : Nat) (fz : List Fz) (fn : List He.DefD) (g : Addr → Option Obj) : He.AlD := obsZ fz fn (He.frG g (He.asD g n))
def hookZ (n : Nat) (fz : List Fz) (fn : List He.DefD) : PySem.W.Hook where
  α := He.AlD
  obs := fun s => obsZG n fz fn s.heap.get?
  val := fun _ => He.valD fn
  says := fun _ h => ∃ K : PySem.W.Frag, K.In h ∧ SaysZ fz fn K
  of := fun _ _ e => ⟨_, He.frG_in, e⟩
  keeps := fun _ _ _ ⟨K, hK, c⟩ k => ⟨K, PySem.W.Frag.In.keeps hK k, c⟩
theorem obsZG_eq {n : Nat} {fz : List Fz} {fn : List He.DefD} {g : Addr → Option Obj} {s : Shared} (h : ∀ a, g a = s.heap.get? a) : obsZG n fz fn g = (hookZ n fz fn).obs s := by
  have e : g = s.heap.get? := funext h
  subst e
  rfl
section
variable {fz : List Fz} {fn : List He.DefD} {K : PySem.W.Frag}
theorem SaysZ.fact (c : SaysZ fz fn K) (i : Nat) {f : Fz} (h : fz[i]? = some f := by rfl) : f K = true := by
  have e : ((fz.all fun f => f K) && fn.all fun d => d.ok K) = true := congrArg Prod.fst c
  exact List.all_eq_true.mp (Bool.and_eq_true_iff.mp e).1 f (List.mem_of_getElem? h)
theorem SaysZ.def_ (c : SaysZ fz fn K) (i : Nat) {d : He.DefD} (h : fn[i]? = some d := by rfl) : ∃ fd, FunD K d.name d.qual d.params d.body d.scope (d.dvs K) (d.kws K) (He.fAd K d.at_) fd := by
  have e : ((fz.all fun f => f K) && fn.all fun d => d.ok K) = true := congrArg Prod.fst c
  have e2 : fn.map (fun d => He.fnW K d.at_) = fn.map He.DefD.val := congrArg Prod.snd c
  have e3 : (fn.map fun d => He.fnW K d.at_)[i]? = (fn.map He.DefD.val)[i]? := by rw [e2]
  rw [List.getElem?_map, List.getElem?_map, h] at e3
  exact He.DefD.funD (Option.some.inj e3) (List.all_eq_true.mp (Bool.and_eq_true_iff.mp e).2 d (List.mem_of_getElem? h))
end
/-! ### own exception classes -/
/-- an own exception class at C -/
structure ExF (K : PySem.W.Frag) (C : Addr) : Prop where
  xf : XfC K C
  cls : (PySem.W.clsIn K C).isSome = true
  kp : PySem.W.keepIn K (.ref C) = true
  ty : PySem.W.typeIn K (.ref C) = some (.type "type")
  ca : PySem.W.findIn K (.ref C) "__class__" = some (some (.builtin "object.__class__"))
  gt : PySem.W.specialIn K (.builtin "object.__class__") "__get__" = some (some (.builtin "getset_descriptor.__get__"))
  tk : PySem.W.takesIn K (.builtin "object.__class__") = some true
  ob : PySem.W.mroIn K C (.type "object") = some true
def exfB (K : PySem.W.Frag) (C : Addr) : Bool := xfB K C && ((PySem.W.clsIn K C).isSome && (PySem.W.keepIn K (.ref C) && (decide (PySem.W.typeIn K (.ref C) = some (.type "type")) && (decide (PySem.W.findIn K (.ref C) "__class__" = some (some (.builtin "object.__class__"))) &&
  (decide (PySem.W.specialIn K (.builtin "object.__class__") "__get__" = some (some (.builtin "getset_descriptor.__get__"))) && (decide (PySem.W.takesIn K (.builtin "object.__class__") = some true) && decide (PySem.W.mroIn K C (.type "object") = some true)))))))
theorem exfB_ok {K : PySem.W.Frag} {C : Addr} (h : exfB K C = true) : ExF K C := by
  obtain ⟨h1, h⟩ := Bool.and_eq_true_iff.mp h
  obtain ⟨h2, h⟩ := Bool.and_eq_true_iff.mp h
  obtain ⟨h3, h⟩ := Bool.and_eq_true_iff.mp h
  obtain ⟨h4, h⟩ := Bool.and_eq_true_iff.mp h
  obtain ⟨h5, h⟩ := Bool.and_eq_true_iff.mp h
  obtain ⟨h6, h⟩ := Bool.and_eq_true_iff.mp h
  obtain ⟨h7, h8⟩ := Bool.and_eq_true_iff.mp h
  exact ⟨xfB_ok h1, h2, h3, of_decide_eq_true h4, of_decide_eq_true h5, of_decide_eq_true h6, of_decide_eq_true h7, of_decide_eq_true h8⟩
theorem ExF.raises {X : Cx} {C : Addr} (T : ExF X.K C) : Raises X (.ref C) := raises_own T.xf.exC T.ty
/-- with an __init__ of its own -/
def oexB (K : PySem.W.Frag) (C : Addr) : Bool := (match K.lookup C with
  | some ⟨.type "type", _, .cls cd, sl⟩ => (match cd.mro, sl.toList with
    | .ref D :: bm, [_, _, _, _, some (.builtin n), _] => decide (D = C) && (decide (n = "ValueError.__new__") && (!cd.hasDel && (cd.hasDict && PySem.HandSPX.refsVE bm)))
    | _, _ => false)
  | _ => false) && (decide (PySem.W.findIn K (.ref C) "__setattr__" = some (some (.builtin "object.__setattr__"))) && (decide (PySem.W.subIn K (.ref C) (.type "BaseException") = some true) &&
    (decide (PySem.W.typeIn K (.ref C) = some (.type "type")) && PySem.W.keepIn K (.ref C))))
theorem oexB_ok {K : PySem.W.Frag} {C : Addr} (h : oexB K C = true) : OexC K C := by
  obtain ⟨h1, h⟩ := Bool.and_eq_true_iff.mp h
  obtain ⟨h2, h⟩ := Bool.and_eq_true_iff.mp h
  obtain ⟨h3, h⟩ := Bool.and_eq_true_iff.mp h
  obtain ⟨h4, h5⟩ := Bool.and_eq_true_iff.mp h
  refine ⟨?_, of_decide_eq_true h2, of_decide_eq_true h3, of_decide_eq_true h4, h5⟩
  split at h1
  · rename_i dd cd sl ho
    split at h1
    · rename_i D bm k0 k1 k2 k3 n k5 hm hs
      simp only [Bool.and_eq_true, decide_eq_true_eq, Bool.not_eq_true'] at h1
      obtain ⟨rfl, rfl, e1, e2, e3⟩ := h1
      obtain ⟨nm, bs, mro, ns, qn, hd, sn, sub, ab, col, del⟩ := cd
      dsimp only at hm e1 e2
      subst hm e1 e2
      have hsl : sl = #[k0, k1, k2, k3, some (.builtin "ValueError.__new__"), k5] := by
        obtain ⟨l⟩ := sl
        simp only at hs
        rw [hs]
      subst hsl
      exact ⟨nm, qn, ns, bs, bm, sn, sub, ab, col, dd, k0, k1, k2, k3, k5, ho, e3⟩
    · cases h1
  · cases h1
section
variable {X : Cx} {C : Addr} {B newId initId : String} {bmB : List Value}
/-- C() of a class without an __init__ of its own -/
theorem pmk_0 {x : Str} {p pos : Pos} (T : ExF X.K C) (q : PySem.W.excIn X.K C He.veBase "ValueError.__new__" = true) (gC : X.mg x = some (.ref C)) (hg : Gl X x) (hdb : (x == ("__debug__" : Str)) = false := by decide) :
    PMk X (.Call (.Name x p) [] [] pos) (fun _ H Q => Q (.ref C) none H) := by
  intro pins s σ H Q I h
  refine wpAny_Call_Name_kw (ld_glob I hg gC ?_ hdb)
  refine PySem.W.callWith_K0 I.kIn T.kp ?_
  show wpAny _ _ (call (.ref C) []) _ _ _
  obtain ⟨bm, N, nm, qn, bs, hdct, sn, sub, ab, col, dd, k0, k1, k2, k3, k5, mN, hC, hN, hni, T2⟩ := exc_obj I.kIn q
  obtain ⟨hp, g, d, t, os⟩ := s
  refine wpAny_call_exc_subT PySem.F.excBase_ValueError T2 hC hN hni (fun h' e hm => ?_) (Nat.zero_le _)
  exact mk_of I hm T.raises h (I.hok.gone hm.new)
end
/-! ### isinstance of a caught exception -/
theorem instAt {P : Program} {w : World} {H : Hp} {h : Heap} {a C : Addr} {oe : Obj} {d : Option Addr} (hok : HOk P w H h) (hget : h.get? a = some oe) (hz : Zc (.ref C) d oe) (hf : ∃ vs, oe.data = .fields vs) (hd : d = none ∨ ∃ dd fs, d = some dd ∧ H dd = some (.xd fs)) :
    ∃ od, PySem.W.InstAt h a oe C od := by
  obtain ⟨vs, hv⟩ := hf
  rcases hd with hd | ⟨dd, fs, hd, hx⟩
  · refine ⟨none, hget, hz.1, by unfold PySem.W.notCls; rw [hv] <;> rfl, ?_⟩
    rw [hz.2, hd]
    trivial
  · have q : ObjOk P w H h dd (.xd fs) := hok dd _ hx
    obtain ⟨mA, hns, _⟩ := q
    obtain ⟨od, ho, _⟩ := lookIn_ns hns
    refine ⟨some od, hget, hz.1, by unfold PySem.W.notCls; rw [hv] <;> rfl, ?_⟩
    rw [hz.2, hd]
    exact ho
/-- isinstance(e, c), isinstance(e, (c, ..)): e at a -/
def rIsX (K : PySem.W.Frag) (cls : Value) (d : Option Addr) (a : Addr) : List V → Hp → VK → Prop := fun vs H Q => ∃ (C : Addr), cls = .ref C ∧ ExF K C ∧ (d = none ∨ ∃ dd fs, d = some dd ∧ H dd = some (.xd fs)) ∧
  ((∃ (c : V) (cv : Value) (b : Bool), vs = [.ref a, c] ∧ (∀ u, RelV c u → u = cv) ∧ PySem.W.kitOne K (.ref C) cv = some b ∧ Q (.bl b) H) ∨
    ∃ (p : Addr) (cs : List V) (b : Bool), vs = [.ref a, .ref p] ∧ H p = some (.tup cs) ∧ (∀ us, Vals cs us → PySem.W.kitAny K (.ref C) us = some b) ∧ Q (.bl b) H)
theorem call_isX {X : Cx} {a : Addr} {cls : Value} {d : Option Addr} {oe : Obj} {pn : List (Addr × Obj)} (K : PySem.W.Frag) (hz : Zc cls d oe) (hf : ∃ vs, oe.data = .fields vs) (hK : X.K = K := by rfl) : CallR (X.suite a ((a, oe) :: pn)) (.builtin "isinstance") (rIsX K cls d a) := by
  subst hK
  intro pins s σ H xs us Q I r h
  obtain ⟨C, rfl, T, hd, h⟩ := h
  obtain ⟨hget, _⟩ := I.pin (a, oe) (List.mem_append.mpr (.inl List.mem_cons_self))
  obtain ⟨od, J⟩ := instAt I.hok hget hz hf hd
  have Z := PySem.W.kitx_exc (x := a) (od := od) (ox := oe) T.cls T.xf.ga T.xf.gg T.xf.exC T.ca T.gt T.tk T.ob
  rcases h with ⟨c, cv, b, rfl, hcv, e, q⟩ | ⟨p, cs, b, rfl, hp, e, q⟩
  · cases r with
    | cons rx rr =>
      cases rr with
      | cons rt rr =>
        cases rr
        cases rx
        have ec := hcv _ rt
        subst ec
        exact PySem.W.kia_one Z I.kIn J e (fun z => nomatch z) fun tk => ⟨.bl b, H, I.kept (t' := tk) fun _ _ z => z, rfl, q⟩
  · cases r with
    | cons rx rr =>
      cases rr with
      | cons rt rr =>
        cases rr
        cases rx
        cases rt
        obtain ⟨_, us, rv, ⟨oc, odd, odt, osl⟩, ho, hc, n, hdt⟩ := I.hok p _ hp
        dsimp only at hc hdt
        subst hc hdt
        exact PySem.W.kia_tup Z I.kIn J ho (by simpa using e _ rv) (fun z => nomatch z) fun tk => ⟨.bl b, H, I.kept (t' := tk) fun _ _ z => z, rfl, q⟩
/-! ### defs that may raise, called by their names -/
section
variable {X : Cx} {k j : Nat} {x : Str} {sp : Sp} {CX : CXT} {E : L2.St → XK} {p pos : Pos} {e : Expr} {es : List Expr} {t : TA}
theorem pe_cgS (c : Cg X.prog X.w X.K X.mg X.base CX k x sp) (hr : Room j X.A) (gd : X.A.guards = some []) (hk : k ≤ j) (hg : Gl X x) (hx : ∀ σ, PassesAt CX X σ (E σ)) (ha : PA X (e :: es) t)
    (hdb : (x == ("__debug__" : Str)) = false := by decide) (he : starEach (e :: es) X.env = (false, eval e X.env) :: starEach es X.env := by rfl) (hpl : (backTo pos (starEach es X.env)).any (·.1) = false := by rfl) :
    PE X (.Call (.Name x p) (e :: es) [] pos) (tCallS sp E t) := by
  obtain ⟨f, fd, ps, F, hm, kp, b⟩ := c.ex
  refine ⟨fun pins s σ H Q I w1 => ?_⟩
  refine wpAny_Call_Name_kw (ld_glob I hg hm ?_ hdb)
  refine PySem.W.callWith_K (h₀ := X.base) I.ok.mod.kin kp (thn (ha.run pos pins s σ H _ I w1) ?_) he hpl
  rintro us s1 ⟨vs, H1, I1, r, w2⟩
  refine ⟨I1.kIn, ?_⟩
  have hl : us.length = ps.length := by
    rw [← r.length]
    exact F.len _ _ _ _ w2
  have bi := b s1 us I1.kIn (by rw [List.append_nil]; exact hl)
  rw [List.append_nil] at bi
  refine wpAny_call (codeAny_mono (F.run X.A X.stack s1 H1 ⟨us, []⟩ us vs Q (E σ) (hr.mono hk) gd I1.env0 bi r w2) ?_)
  intro r s' q
  cases r with
  | error z => exact hx σ pins H1 s1 z s' I1 q
  | ok fl =>
    cases fl with
    | ret u => exact I1.after q
    | next => exact q.elim
    | brk => exact q.elim
    | cont => exact q.elim
/-- what a def's body wishes of a callee's exception: its own wish -/
theorem pass_up {E : XK} {E₁ : Value → Shared → Prop} (hs : X.stack = X.env :: X.outer) (hf : X.env.frame = some X.env.locals) (hex : X.ex = [])
    (hx : X.xe = fun e s' => wpAny (model X.prog X.w) X.A (leaving X.env e) (fun _ s'' => L2.CX X.prog X.w X.outer X.H_0 X.s_0 E e s'') E₁ s') : Passes (L2.CX X.prog X.w) X E :=
  passes_call (takes_of hs hf hex hx) fun _ _ _ _ h => h
end
/-! ### classes whose __init__ keeps what is handed in -/
structure IniC (K : PySem.W.Frag) (C fI : Addr) (fs : List Str) : Prop where
  oex : OexC K C
  ini : PySem.W.findIn K (.ref C) "__init__" = some (some (.ref fI))
  tyf : PySem.W.typeIn K (.ref fI) = some (.type "function")
  no : ∀ f ∈ fs, PySem.W.findIn K (.ref C) f = some none
def iniB (K : PySem.W.Frag) (x : Str) (fs : List Str) : Bool := oexB K (He.ga K x) && (decide (PySem.W.findIn K (.ref (He.ga K x)) "__init__" = some (some (.ref (He.ma K (He.ga K x) "__init__")))) &&
  (decide (PySem.W.typeIn K (.ref (He.ma K (He.ga K x) "__init__")) = some (.type "function")) && fs.all fun f => decide (PySem.W.findIn K (.ref (He.ga K x)) f = some none)))
theorem iniB_ok {K : PySem.W.Frag} {x : Str} {fs : List Str} (h : iniB K x fs = true) : IniC K (He.ga K x) (He.ma K (He.ga K x) "__init__") fs := by
  obtain ⟨h1, h⟩ := Bool.and_eq_true_iff.mp h
  obtain ⟨h2, h⟩ := Bool.and_eq_true_iff.mp h
  obtain ⟨h3, h4⟩ := Bool.and_eq_true_iff.mp h
  exact ⟨oexB_ok h1, of_decide_eq_true h2, of_decide_eq_true h3, fun f m => of_decide_eq_true (List.all_eq_true.mp h4 f m)⟩
/-- __init__(self, f) -/
def spIni1 (C : Addr) (f : Str) : Sp := fun vs H Q _ => ∃ a v, vs = [.ref a, v] ∧ H a = some (exo a C none) ∧ ∀ dx, H dx = none → dx ≠ a → Q .non (upd (upd H dx (exd dx [(f, v)])) a (exo a C (some dx)))
/-- __init__(self, f, g) -/
def spIni2 (C : Addr) (f g : Str) : Sp := fun vs H Q _ => ∃ a v u, vs = [.ref a, v, u] ∧ H a = some (exo a C none) ∧
  ∀ dx, H dx = none → dx ≠ a → Q .non (upd (upd (upd H dx (exd dx [(f, v)])) a (exo a C (some dx))) dx (exd dx [(g, u), (f, v)]))
/-- X, whose __init__ keeps one thing -/
structure Mk1 (P : Program) (w : World) (K : PySem.W.Frag) (mg : Str → Option Value) (base : Heap) (x f : Str) : Prop where
  g : mg x = some (.ref (He.ga K x))
  i : IniC K (He.ga K x) (He.ma K (He.ga K x) "__init__") [f]
  fn : ∃ fd ps, FnOk P w K mg base CX0 1 (He.ma K (He.ga K x) "__init__") fd ps (spIni1 (He.ga K x) f) ∧ Binds K fd ps []
structure Mk2 (P : Program) (w : World) (K : PySem.W.Frag) (mg : Str → Option Value) (base : Heap) (x f g : Str) : Prop where
  gl : mg x = some (.ref (He.ga K x))
  i : IniC K (He.ga K x) (He.ma K (He.ga K x) "__init__") [f, g]
  fn : ∃ fd ps, FnOk P w K mg base CX0 1 (He.ma K (He.ga K x) "__init__") fd ps (spIni2 (He.ga K x) f g) ∧ Binds K fd ps []
def mk1 (C : Addr) (f : Str) (Q : XK) : List V → Hp → Prop := fun vs H => ∃ v, vs = [v] ∧ ∀ d, H d = none → Q (.ref C) (some d) (upd H d (.xd [(f, v)]))
def mk2 (C : Addr) (f g : Str) (Q : XK) : List V → Hp → Prop := fun vs H => ∃ v u, vs = [v, u] ∧ ∀ d, H d = none → Q (.ref C) (some d) (upd H d (.xd [(g, u), (f, v)]))
/-- what is wished may be weakened -/
def tImp (ta : TA) : TA := fun σ H R => ∃ S, ta σ H S ∧ ∀ vs H1, S vs H1 → R vs H1
section
variable {X : Cx} {x f g : Str} {e : Expr} {es : List Expr} {ta : TA} {k : Nat} {p pos : Pos}
theorem pa_imp (ha : PA X es ta) : PA X es (tImp ta) := ⟨fun pos pins s σ H R I ⟨S, h1, h2⟩ => thn (ha.run pos pins s σ H S I h1) fun us s1 ⟨vs, H1, I1, r, q⟩ => ⟨vs, H1, I1, r, h2 vs H1 q⟩⟩
theorem back_heap {H1 : Hp} {a d : Addr} {o u v z : HO} (ha : H1 a = none) (hd : H1 d = none) (n : d ≠ a) : upd (del (upd (upd (upd H1 a o) d u) a v) a) d z = upd H1 d z := by
  funext b
  by_cases h1 : b = d
  · rw [h1, upd_same, upd_same]
  · rw [upd_ne h1, upd_ne h1]
    by_cases h2 : b = a
    · rw [h2, del_same, ha]
    · rw [del_ne h2, upd_ne h2, upd_ne h1, upd_ne h2]
theorem back_heap2 {H1 : Hp} {a d : Addr} {o u v y z : HO} (ha : H1 a = none) (hd : H1 d = none) (n : d ≠ a) : upd (del (upd (upd (upd (upd H1 a o) d u) a v) d y) a) d z = upd H1 d z := by
  funext b
  by_cases h1 : b = d
  · rw [h1, upd_same, upd_same]
  · rw [upd_ne h1, upd_ne h1]
    by_cases h2 : b = a
    · rw [h2, del_same, ha]
    · rw [del_ne h2, upd_ne h1, upd_ne h2, upd_ne h1, upd_ne h2]
/-- X(e) -/
theorem pmk_1 (M : Mk1 X.prog X.w X.K X.mg X.base x f) (hr : Room k X.A) (hk : 2 ≤ k) (hg : Gl X x) (ha : PA X (e :: es) ta)
    (hdb : (x == ("__debug__" : Str)) = false := by decide) (he : starEach (e :: es) X.env = (false, eval e X.env) :: starEach es X.env := by rfl) (hpl : (backTo pos (starEach es X.env)).any (·.1) = false := by rfl) :
    PMk X (.Call (.Name x p) (e :: es) [] pos) (fun σ H Q => ta σ H (mk1 (He.ga X.K x) f Q)) := by
  obtain ⟨fd, ps, F, b⟩ := M.fn
  have base := pmk_oex (pos := pos) (p := p) M.i.oex M.i.ini M.i.tyf F (hr.mono hk) b .nil pass0 hg M.g (pa_imp ha) hdb he hpl
  intro pins s σ H Q I h
  refine base pins s σ H Q I ⟨_, h, ?_⟩
  rintro vs H1 ⟨v, rfl, q⟩
  refine ⟨(show 1 ≤ 1000 by decide), fun a na => ⟨a, v, rfl, upd_same, fun dx hd n => ⟨rfl, dx, [(f, v)], upd_same, ?_, ?_, ?_⟩⟩⟩
  · rw [upd_ne n, upd_same]
  · rw [upd_ne n] at hd
    exact hd
  · rw [upd_ne n] at hd
    rw [back_heap na hd n]
    exact q dx hd
/-- X(e, e') -/
theorem pmk_2 (M : Mk2 X.prog X.w X.K X.mg X.base x f g) (hr : Room k X.A) (hk : 2 ≤ k) (hg : Gl X x) (ha : PA X (e :: es) ta)
    (hdb : (x == ("__debug__" : Str)) = false := by decide) (he : starEach (e :: es) X.env = (false, eval e X.env) :: starEach es X.env := by rfl) (hpl : (backTo pos (starEach es X.env)).any (·.1) = false := by rfl) :
    PMk X (.Call (.Name x p) (e :: es) [] pos) (fun σ H Q => ta σ H (mk2 (He.ga X.K x) f g Q)) := by
  obtain ⟨fd, ps, F, b⟩ := M.fn
  have base := pmk_oex (pos := pos) (p := p) M.i.oex M.i.ini M.i.tyf F (hr.mono hk) b .nil pass0 hg M.gl (pa_imp ha) hdb he hpl
  intro pins s σ H Q I h
  refine base pins s σ H Q I ⟨_, h, ?_⟩
  rintro vs H1 ⟨v, u, rfl, q⟩
  refine ⟨(show 2 ≤ 1000 by decide), fun a na => ⟨a, v, u, rfl, upd_same, fun dx hd n => ⟨rfl, dx, [(g, u), (f, v)], ?_, upd_same, ?_, ?_⟩⟩⟩
  · rw [upd_ne (Ne.symm n), upd_same]
  · rw [upd_ne n] at hd
    exact hd
  · rw [upd_ne n] at hd
    rw [back_heap2 na hd n]
    exact q dx hd
end
/-! ### all of a law's exception classes -/
structure Excs (K : PySem.W.Frag) (mg : Str → Option Value) (ns plain : List Str) : Prop where
  g : ∀ x ∈ ns, mg x = some (.ref (He.ga K x))
  f : ∀ x ∈ ns, ExF K (He.ga K x)
  q : ∀ x ∈ plain, PySem.W.excIn K (He.ga K x) He.veBase "ValueError.__new__" = true
  k : ∀ x ∈ ns, ∀ y ∈ ns, PySem.W.kitOne K (.ref (He.ga K x)) (.ref (He.ga K y)) = some (decide (x = y) || decide (y = "CellError"))
  m : ∀ x ∈ ns, ∀ y ∈ ns, PySem.W.exmOne K (.ref (He.ga K x)) (.ref (He.ga K y)) = some (decide (x = y) || decide (y = "CellError"))
  v : ∀ x ∈ ns, PySem.W.kitOne K (.ref (He.ga K x)) (.type "ValueError") = some true
def excsB (ns plain : List Str) : Fz := fun K => (ns.all fun x => He.eqO (PySem.W.nsIn K mainGlobals x) (some (some (.ref (He.ga K x))))) && ((ns.all fun x => exfB K (He.ga K x)) && ((plain.all fun x => PySem.W.excIn K (He.ga K x) He.veBase "ValueError.__new__") &&
  ((ns.all fun x => ns.all fun y => decide (PySem.W.kitOne K (.ref (He.ga K x)) (.ref (He.ga K y)) = some (decide (x = y) || decide (y = "CellError")))) &&
    ((ns.all fun x => ns.all fun y => decide (PySem.W.exmOne K (.ref (He.ga K x)) (.ref (He.ga K y)) = some (decide (x = y) || decide (y = "CellError")))) && ns.all fun x => decide (PySem.W.kitOne K (.ref (He.ga K x)) (.type "ValueError") = some true)))))
theorem excs_ok {K : PySem.W.Frag} {h : Heap} {mg : Str → Option Value} {ns plain : List Str} (X : K.In h) (G : h.Ns mainGlobals mg) (c : excsB ns plain K = true) : Excs K mg ns plain := by
  obtain ⟨h1, c⟩ := Bool.and_eq_true_iff.mp c
  obtain ⟨h2, c⟩ := Bool.and_eq_true_iff.mp c
  obtain ⟨h3, c⟩ := Bool.and_eq_true_iff.mp c
  obtain ⟨h4, c⟩ := Bool.and_eq_true_iff.mp c
  obtain ⟨h5, h6⟩ := Bool.and_eq_true_iff.mp c
  exact ⟨fun x m => PySem.W.mg_of X G (He.eqO_ok (List.all_eq_true.mp h1 x m)), fun x m => exfB_ok (List.all_eq_true.mp h2 x m), fun x m => List.all_eq_true.mp h3 x m,
    fun x m y n => of_decide_eq_true (List.all_eq_true.mp (List.all_eq_true.mp h4 x m) y n), fun x m y n => of_decide_eq_true (List.all_eq_true.mp (List.all_eq_true.mp h5 x m) y n), fun x m => of_decide_eq_true (List.all_eq_true.mp h6 x m)⟩
theorem kit_any {K : PySem.W.Frag} {mg : Str → Option Value} {ns pl : List Str} (x : Excs K mg ns pl) {D : Str} (hD : D ∈ ns) : ∀ (cs : List Str), (∀ y ∈ cs, y ∈ ns) → ∀ us, Vals (cs.map fun y => V.ref (He.ga K y)) us → PySem.W.kitAny K (.ref (He.ga K D)) us = some (cs.any fun y => decide (D = y) || decide (y = "CellError"))
  | [], _, _, .nil => rfl
  | y :: cs, h, _, .cons r t => by
    cases r
    have e := x.k D hD y (h y List.mem_cons_self)
    have ih := kit_any x hD cs (fun z m => h z (List.mem_cons_of_mem _ m)) _ t
    rw [PySem.W.kitAny, e, List.any_cons]
    cases (decide (D = y) || decide (y = "CellError")) with
    | true => rfl
    | false => exact ih
section
variable {K : PySem.W.Frag} {mg : Str → Option Value} {ns pl : List Str} {H : Hp} {Q : VK} {a : Addr} {d : Option Addr} {D y : Str}
theorem isX1 (x : Excs K mg ns pl) (hD : D ∈ ns) (hy : y ∈ ns) (hd : d = none ∨ ∃ dd fs, d = some dd ∧ H dd = some (.xd fs)) (b : Bool) (hb : (decide (D = y) || decide (y = "CellError")) = b) (q : Q (.bl b) H) : rIsX K (.ref (He.ga K D)) d a [.ref a, .ref (He.ga K y)] H Q :=
  ⟨_, rfl, x.f D hD, hd, .inl ⟨_, _, b, rfl, fun _ h => h, by rw [x.k D hD y hy, hb], q⟩⟩
theorem isXV (x : Excs K mg ns pl) (hD : D ∈ ns) (hd : d = none ∨ ∃ dd fs, d = some dd ∧ H dd = some (.xd fs)) (q : Q (.bl true) H) : rIsX K (.ref (He.ga K D)) d a [.ref a, .ty "ValueError"] H Q :=
  ⟨_, rfl, x.f D hD, hd, .inl ⟨_, _, _, rfl, fun _ h => h, x.v D hD, q⟩⟩
theorem isXT (x : Excs K mg ns pl) (hD : D ∈ ns) (cs : List Str) (hy : ∀ y ∈ cs, y ∈ ns) {p : Addr} (hp : H p = some (.tup (cs.map fun y => V.ref (He.ga K y)))) (hd : d = none ∨ ∃ dd fs, d = some dd ∧ H dd = some (.xd fs)) (b : Bool) (hb : (cs.any fun y => decide (D = y) || decide (y = "CellError")) = b) (q : Q (.bl b) H) :
    rIsX K (.ref (He.ga K D)) d a [.ref a, .ref p] H Q :=
  ⟨_, rfl, x.f D hD, hd, .inr ⟨p, _, b, rfl, hp, fun us r => by rw [kit_any x hD cs hy us r, hb], q⟩⟩
end
/-- a constant tuple of the top, a constant list -/
theorem tup_fact {K : PySem.W.Frag} {x : Str} {vs : List He.Dv} (h : He.tupB K x vs = true) : ∀ H : Hp, SqT K H (He.ga K x) (vs.map (He.Dv.v K)) := fun H => He.tupB_ok h H
end Z

set_option maxRecDepth 100000
set_option maxHeartbeats 4000000
namespace Z
open PySem PySem.Spec PyProof.Rows L2
/-! ### texts cut at one sign -/
/-- cut at every s; acc: what stands ahead -/
def cutL (s : Nat) : List Nat → List Nat → List (List Nat)
  | acc, [] => [acc]
  | acc, c :: r => if c = s then acc :: cutL s [] r else cutL s (acc ++ [c]) r
theorem spl_cut (s : Nat) : ∀ (l acc : List Nat), TL.spl [s] 0 acc l = cutL s acc l
  | [], acc => TL.spl_nil _ _ _
  | c :: r, acc => by
    have ih := spl_cut s r
    by_cases e : c = s
    · have p : TL.pre [s] (c :: r) = true := by rw [e]; simp [TL.pre]
      rw [TL.spl_hit p, cutL, if_pos e]
      exact congrArg _ (ih [])
    · have p : TL.pre [s] (c :: r) = false := by simpa [TL.pre] using e
      rw [cutL, if_neg e, ← ih (acc ++ [c])]
      show (if TL.pre [s] (c :: r) = true then _ else _) = _
      rw [p, if_neg Bool.false_ne_true]
theorem cut_ne (s : Nat) : ∀ (l acc : List Nat), cutL s acc l ≠ []
  | [], acc => by simp [cutL]
  | c :: r, acc => by
    rw [cutL]
    split
    · simp
    · exact cut_ne s r _
theorem cut_len (s : Nat) : ∀ (l acc : List Nat), (cutL s acc l).length ≤ l.length + 1
  | [], acc => by simp [cutL]
  | c :: r, acc => by
    rw [cutL]
    split
    · rw [List.length_cons, List.length_cons]
      have := cut_len s r []
      omega
    · have := cut_len s r (acc ++ [c])
      rw [List.length_cons]
      omega
/-- the parts and what parts them, together -/
theorem cut_sum (s : Nat) : ∀ (l acc : List Nat), ((cutL s acc l).map List.length).sum + (cutL s acc l).length = acc.length + l.length + 1
  | [], acc => by simp [cutL]
  | c :: r, acc => by
    rw [cutL]
    split
    · have := cut_sum s r []
      simp only [List.map_cons, List.sum_cons, List.length_cons, List.length_nil] at *
      omega
    · have := cut_sum s r (acc ++ [c])
      simp only [List.length_append, List.length_cons, List.length_nil] at *
      omega
theorem cut_mem (s : Nat) : ∀ (l acc : List Nat) {r : List Nat} {c : Nat}, r ∈ cutL s acc l → c ∈ r → c ∈ acc ∨ (c ∈ l ∧ c ≠ s)
  | [], acc, r, c, h, m => by
    rw [cutL, List.mem_singleton] at h
    rw [h] at m
    exact .inl m
  | d :: l, acc, r, c, h, m => by
    rw [cutL] at h
    split at h
    · rename_i e
      rcases List.mem_cons.mp h with h | h
      · rw [h] at m
        exact .inl m
      · rcases cut_mem s l [] h m with q | q
        · cases q
        · exact .inr ⟨List.mem_cons_of_mem _ q.1, q.2⟩
    · rename_i e
      rcases cut_mem s l _ h m with q | q
      · rcases List.mem_append.mp q with q | q
        · exact .inl q
        · rw [List.mem_singleton.mp q]
          exact .inr ⟨List.mem_cons_self, e⟩
      · exact .inr ⟨List.mem_cons_of_mem _ q.1, q.2⟩
theorem mem_cut (s : Nat) : ∀ (l acc : List Nat) {c : Nat}, (c ∈ acc ∨ (c ∈ l ∧ c ≠ s)) → ∃ r ∈ cutL s acc l, c ∈ r
  | [], acc, c, h => by
    rcases h with h | h
    · exact ⟨acc, by simp [cutL], h⟩
    · cases h.1
  | d :: l, acc, c, h => by
    rw [cutL]
    split
    · rename_i e
      rcases h with h | ⟨h, n⟩
      · exact ⟨acc, List.mem_cons_self, h⟩
      · rcases List.mem_cons.mp h with h | h
        · exact absurd (h.trans e) n
        · obtain ⟨r, hr, m⟩ := mem_cut s l [] (.inr ⟨h, n⟩)
          exact ⟨r, List.mem_cons_of_mem _ hr, m⟩
    · refine mem_cut s l _ ?_
      rcases h with h | ⟨h, n⟩
      · exact .inl (List.mem_append_left _ h)
      · rcases List.mem_cons.mp h with h | h
        · rw [h]
          exact .inl (List.mem_append_right _ (List.mem_singleton.mpr rfl))
        · exact .inr ⟨h, n⟩
theorem cut_plain (s : Nat) : ∀ (l acc : List Nat), s ∉ l → cutL s acc l = [acc ++ l]
  | [], acc, _ => by rw [cutL, List.append_nil]
  | c :: l, acc, h => by
    rw [cutL, if_neg (fun e => h (by rw [e]; exact List.mem_cons_self)), cut_plain s l _ (fun m => h (List.mem_cons_of_mem _ m)), List.append_assoc]
    rfl
theorem cut_app (s : Nat) : ∀ (l acc m : List Nat), s ∉ l → cutL s acc (l ++ s :: m) = (acc ++ l) :: cutL s [] m
  | [], acc, m, _ => by rw [List.nil_append, cutL, if_pos rfl, List.append_nil]
  | c :: l, acc, m, h => by
    rw [List.cons_append, cutL, if_neg (fun e => h (by rw [e]; exact List.mem_cons_self)), cut_app s l _ m (fun q => h (List.mem_cons_of_mem _ q)), List.append_assoc]
    rfl
/-- the parts, joined again -/
theorem cut_join (s : Nat) : ∀ rows : List (List Nat), rows ≠ [] → (∀ r ∈ rows, s ∉ r) → cutL s [] (TL.joinL [s] rows) = rows
  | [], h, _ => absurd rfl h
  | [r], _, h => by
    show cutL s [] r = _
    rw [cut_plain s r [] (h r List.mem_cons_self), List.nil_append]
  | r :: q :: rs, _, h => by
    show cutL s [] (r ++ ([s] ++ TL.joinL [s] (q :: rs))) = _
    rw [List.singleton_append, cut_app s r [] _ (h r List.mem_cons_self), cut_join s (q :: rs) (by simp) (fun z m => h z (List.mem_cons_of_mem _ m)), List.nil_append]
/-- a text's parts -/
def cutAt (s : Nat) (z : Str) : List Str := (cutL s [] z.cps.toList).map SX.S
theorem split_cut {z : Str} {y : Str} {s : Nat} (hy : y.cps.toList = [s]) (hs : s < 256) : Txt.split z y = cutAt s z := by
  have h1 := TL.split_spl z y (by show y.cps.toList ≠ []; rw [hy]; exact List.cons_ne_nil _ _) (TL.kind_ok (by rw [← Array.all_toList, hy]; simp [hs]))
  have h2 : (Txt.split z y).map TL.tl = cutL s [] z.cps.toList := by
    rw [h1]
    show TL.spl y.cps.toList 0 [] z.cps.toList = _
    rw [hy, spl_cut]
  unfold cutAt
  rw [← h2, List.map_map]
  have e : (SX.S ∘ TL.tl) = id := by
    funext x
    exact SX.S_tl x
  rw [e, List.map_id]
/-! ### how long it goes without the sign -/
def Run (s : Nat) (l : List Nat) (M : Nat) : Prop := ∀ i n, i + n ≤ l.length → (∀ j, j < n → l[i + j]? ≠ some s) → n ≤ M
theorem Run.mono {s : Nat} {l : List Nat} {M N : Nat} (h : Run s l M) (e : M ≤ N) : Run s l N := fun i n a b => Nat.le_trans (h i n a b) e
theorem Run.of_len {s : Nat} {l : List Nat} {M : Nat} (h : l.length ≤ M) : Run s l M := fun i n a _ => by omega
theorem Run.app {s : Nat} {x y : List Nat} {A B : Nat} (hx : Run s x A) (hy : Run s y B) : Run s (x ++ y) (A + B) := by
  intro i n a b
  rw [List.length_append] at a
  by_cases h1 : i + n ≤ x.length
  · have := hx i n h1 fun j hj => by
      have := b j hj
      rwa [List.getElem?_append_left (by omega)] at this
    omega
  · by_cases h2 : x.length ≤ i
    · have := hy (i - x.length) n (by omega) fun j hj => by
        have := b j hj
        rw [List.getElem?_append_right (by omega)] at this
        have e : i + j - x.length = i - x.length + j := by omega
        rwa [e] at this
      omega
    · have p := hx i (x.length - i) (by omega) fun j hj => by
        have := b j (by omega)
        rwa [List.getElem?_append_left (by omega)] at this
      have q := hy 0 (n - (x.length - i)) (by omega) fun j hj => by
        have := b (x.length - i + j) (by omega)
        rw [List.getElem?_append_right (by omega)] at this
        have e : i + (x.length - i + j) - x.length = 0 + j := by omega
        rwa [e] at this
      omega
theorem Run.slash {s : Nat} {x y : List Nat} {M : Nat} (hx : Run s x M) (hy : Run s y M) : Run s (x ++ s :: y) M := by
  intro i n a b
  rw [List.length_append, List.length_cons] at a
  by_cases h1 : i + n ≤ x.length
  · exact hx i n h1 fun j hj => by
      have := b j hj
      rwa [List.getElem?_append_left (by omega)] at this
  · by_cases h2 : x.length < i
    · exact hy (i - x.length - 1) n (by omega) fun j hj => by
        have := b j hj
        rw [List.getElem?_append_right (by omega)] at this
        have e : i + j - x.length = (i - x.length - 1 + j) + 1 := by omega
        rwa [e, List.getElem?_cons_succ] at this
    · exfalso
      refine b (x.length - i) (by omega) ?_
      rw [List.getElem?_append_right (by omega)]
      have e : i + (x.length - i) - x.length = 0 := by omega
      rw [e]
      rfl
theorem Run.take {s : Nat} {x : List Nat} {A : Nat} (h : Run s x A) (k : Nat) : Run s (x.take k) A := by
  intro i n a b
  rw [List.length_take] at a
  exact h i n (by omega) fun j hj => by
    have := b j hj
    rwa [List.getElem?_take, if_pos (by omega)] at this
theorem Run.drop {s : Nat} {x : List Nat} {A : Nat} (h : Run s x A) (k : Nat) : Run s (x.drop k) A := by
  intro i n a b
  rw [List.length_drop] at a
  by_cases z : n = 0
  · omega
  exact h (k + i) n (by omega) fun j hj => by
    have := b j hj
    rw [List.getElem?_drop] at this
    have e : k + (i + j) = k + i + j := by omega
    rwa [e] at this
theorem Run.first {s : Nat} : ∀ {l acc : List Nat} {M : Nat}, Run s (acc ++ l) M → s ∉ acc → ((cutL s acc l).headD []).length ≤ M
  | [], acc, M, h, n => by
    show acc.length ≤ M
    rw [List.append_nil] at h
    exact h 0 acc.length (by omega) fun j hj e => n (List.mem_of_getElem? e)
  | c :: l, acc, M, h, n => by
    rw [cutL]
    split
    · rename_i e
      show acc.length ≤ M
      refine h 0 acc.length (by rw [List.length_append]; omega) fun j hj e2 => n ?_
      rw [Nat.zero_add, List.getElem?_append_left hj] at e2
      exact List.mem_of_getElem? e2
    · rename_i e
      refine Run.first (by rw [List.append_assoc]; exact h) ?_
      rw [List.mem_append, List.mem_singleton]
      rintro (q | q)
      · exact n q
      · exact e q.symm
theorem Run.join {s : Nat} {r : List Nat} {M : Nat} (h : Run s r M) : ∀ k : Nat, Run s (TL.joinL [s] (List.replicate (k + 1) r)) M
  | 0 => h
  | k + 1 => by
    show Run s (r ++ ([s] ++ TL.joinL [s] (List.replicate (k + 1) r))) M
    exact h.slash (Run.join h k)
theorem join_rep_len {s : Nat} {r : List Nat} : ∀ k : Nat, (TL.joinL [s] (List.replicate (k + 1) r)).length = k * (r.length + 1) + r.length
  | 0 => by show r.length = _; omega
  | k + 1 => by
    show (r ++ ([s] ++ TL.joinL [s] (List.replicate (k + 1) r))).length = _
    rw [List.length_append, List.length_append, join_rep_len k, List.length_singleton, Nat.add_mul]
    omega
/-! ### what is walked over a text, a store at the end of a list -/
theorem for_txt {te : TE} {g : TG} {tb : TS} {D : Ends} {σ : L2.St} {H : Hp} (h : te σ H fun x H1 => ∃ z, x = .str z ∧ ForAsk (L2.Its z) g tb D σ H1) : tFor (iStr te) g tb D σ H := h
def rSetL : TSet := fun o i v H Q => onR o fun p => onI i fun k => ∃ xs j, H p = some (.lst xs) ∧ L2.ixN xs.length k = some j ∧ Q (upd H p (.lst (xs.set j v)))
section
variable {X : Cx}
theorem set_L : PSet X rSetL := by
  intro pins s σ H o i v ov iv u Q I ro ri rv h
  obtain ⟨p, rfl, h⟩ := onR_ex h
  obtain ⟨k, rfl, h⟩ := onI_ex h
  obtain ⟨xs, j, h1, h2, h3⟩ := h
  exact set_list pins s σ H _ _ v ov iv u Q I ro ri rv ⟨p, xs, k, j, rfl, rfl, h1, h2, h3⟩
end
theorem ixN_last (n : Nat) : L2.ixN (n + 1) (-1) = some n := by
  unfold L2.ixN
  rw [if_neg (by decide), if_pos (by omega)]
  congr 1
  omega
end Z

set_option maxRecDepth 100000
set_option maxHeartbeats 4000000
namespace Z
open PySem PySem.Spec PyProof.Rows L2
/-! ### several except clauses, each with a name or without -/
/-- the ends of a suite whose name goes -/
def unnamed (i : Nat) (D : Ends) : Ends := { nx := fun σ H => D.nx (σ.set i none) H, rt := D.rt, bk := fun σ H => D.bk (σ.set i none) H, ct := fun σ H => D.ct (σ.set i none) H }
/-- a clause: its class, its name's slot, its suite -/
structure Clause where
  c : Value
  i : Option Nat
  ts : Addr → Value → Option Addr → TS
/-- the suite of a clause that was met -/
def Clause.met (k : Clause) (D : Ends) (cls : Value) (d : Option Addr) (σ : L2.St) (H : Hp) : Prop := ∀ a, H a = none → match k.i with
  | none => k.ts a cls d D σ H
  | some i => k.ts a cls d (unnamed i D) (σ.set i (some (.ref a))) H
/-- one behind the other -/
def wClauses (K : PySem.W.Frag) (Wout : WX) (D : Ends) : List Clause → WX
  | [] => Wout
  | k :: r => fun cls d σ H => ∃ b, PySem.W.exmOne K cls k.c = some b ∧ (b = true → k.met D cls d σ H) ∧ (b = false → wClauses K Wout D r cls d σ H)
abbrev SuiteOk (X : Cx) (body : List Stmt) (ts : Addr → Value → Option Addr → TS) : Prop :=
  ∀ (a : Addr) (oe : Obj) (cls : Value) (d : Option Addr) (pn : List (Addr × Obj)), Zc cls d oe → (∃ vs, oe.data = .fields vs) → PSs (X.suite a ((a, oe) :: pn)) body (ts a cls d)
inductive Clauses (X : Cx) : List ExceptHandler → List Clause → Prop
  | nil : Clauses X [] []
  | plain {x : Str} {c : Value} {ts : Addr → Value → Option Addr → TS} {b₀ : Stmt} {bs : List Stmt} {np p : Pos} {hds : List ExceptHandler} {l : List Clause} (hc : Names X x c) (hs : SuiteOk X (b₀ :: bs) ts) (r : Clauses X hds l) :
      Clauses X (.ExceptHandler (some (.Name x np)) none (b₀ :: bs) p :: hds) (⟨c, none, ts⟩ :: l)
  | named {x n : Str} {i : Nat} {c : Value} {ts : Addr → Value → Option Addr → TS} {b₀ : Stmt} {bs : List Stmt} {np p : Pos} {hds : List ExceptHandler} {l : List Clause} (hi : X.N[i]? = some n) (hl : X.env.kindOf n = some .local) (hc : Names X x c)
      (hs : SuiteOk X (b₀ :: bs) ts) (r : Clauses X hds l) : Clauses X (.ExceptHandler (some (.Name x np)) (some n) (b₀ :: bs) p :: hds) (⟨c, some i, ts⟩ :: l)
section
variable {X : Cx} {pins : List (Addr × Obj)} {σ : L2.St} {H : Hp} {D : Ends} {Wout : WX} {B : Heap} {a : Addr} {cls : Value} {d : Option Addr} {sI s : Shared}
/-- a suite's end, handed on -/
theorem suite_end {oe : Obj} {l : List (Addr × Obj)} (ok : X.Ok) {f : Flow} {s6 : Shared} (h : SP (X.suite a ((a, oe) :: (X.pn ++ pins))) [] D f s6) : SP X pins D f s6 := by
  cases f with
  | next => obtain ⟨σ6, H6, S6, q⟩ := h; exact ⟨_, _, S6.unsuite ok, q⟩
  | brk => obtain ⟨σ6, H6, S6, q⟩ := h; exact ⟨_, _, S6.unsuite ok, q⟩
  | cont => obtain ⟨σ6, H6, S6, q⟩ := h; exact ⟨_, _, S6.unsuite ok, q⟩
  | ret u => obtain ⟨v, σ6, H6, S6, r, q⟩ := h; exact ⟨_, _, _, S6.unsuite ok, r, q⟩
/-- a named suite's end: the name goes -/
theorem named_end {i : Nat} {n : Str} {p : Pos} {oe : Obj} {l : List (Addr × Obj)} (ok : X.Ok) (hN : X.N.Nodup) (hi : X.N[i]? = some n) (hl : X.env.kindOf n = some .local) {f : Flow} {s6 : Shared} (h : SP (X.suite a ((a, oe) :: (X.pn ++ pins))) [] (unnamed i D) f s6) :
    wpAny (model X.prog X.w) X.A (do bindName X.env n .none; unbindBehindTheSuite X.env n p) (fun _ s7 => SP X pins D f s7) X.xe s6 := by
  cases f with
  | next => obtain ⟨σ6, H6, S6, q⟩ := h; exact gone_ok (S6.unsuite ok) hN hi hl fun s7 J7 => ⟨_, _, J7, q⟩
  | brk => obtain ⟨σ6, H6, S6, q⟩ := h; exact gone_ok (S6.unsuite ok) hN hi hl fun s7 J7 => ⟨_, _, J7, q⟩
  | cont => obtain ⟨σ6, H6, S6, q⟩ := h; exact gone_ok (S6.unsuite ok) hN hi hl fun s7 J7 => ⟨_, _, J7, q⟩
  | ret u => obtain ⟨v, σ6, H6, S6, r, q⟩ := h; exact gone_ok (S6.unsuite ok) hN hi hl fun s7 J7 => ⟨_, _, _, J7, r, q⟩
/-- an exception on the ground, before the clauses -/
theorem clauses_run (hs : X.stack = X.env :: X.outer) (hf : X.env.frame = some X.env.locals) (hN : X.N.Nodup) (tk : Takes X Wout) (J : Inv X pins σ H sI) {s' : Shared} (nb : ∀ b o, sI.heap.get? b = some o → b ∉ frs X.stack → B.get? b = some o) (up : sI.heap.UpToSlots s'.heap)
    (na : H a = none) (os : s'.os = sI.os) (ag : AllBare s'.gens) {h3 : Heap} (fl : HandSPX.FlyingZ B (X.env :: X.outer) a (Zc cls d) h3) (up3 : s'.heap.UpToSlots h3) :
    ∀ {hds : List ExceptHandler} {l : List Clause}, Clauses X hds l → wClauses X.K Wout D l cls d σ H → wpAny (model X.prog X.w) X.A (handleBy (.ref a) X.env hds) (SP X pins D) X.xe { s' with heap := h3 } := by
  have ok := J.ok
  have J3 : Inv X pins σ H { s' with heap := h3 } := J.landed nb fl.1 (up.trans up3) os ag
  obtain ⟨oe, vs, he, hz, hd⟩ := fl.there
  have off : a ∉ frs (X.env :: X.outer) := fun hm => by
    obtain ⟨_, o, e, q⟩ := fl.2.2.1.mem hm
    rw [he] at e
    cases e
    exact q _ hd
  have nL : a ≠ X.env.locals := fun z => off (List.mem_filterMap.mpr ⟨X.env, List.mem_cons_self, by rw [hf, z]⟩)
  have nF : a ∉ X.fs := fun hm => by
    obtain ⟨e, h1, q⟩ := List.mem_filterMap.mp hm
    exact off (List.mem_filterMap.mpr ⟨e, List.mem_cons_of_mem _ h1, q⟩)
  have S3 := J3.suite he hd na nL nF
  have asked : ∀ {x : Str} {c : Value} {np : Pos} {b : Bool}, Names X x c → PySem.W.exmOne X.K cls c = some b → ∀ {Q : Value → Shared → Prop} {E : Value → Shared → Prop}, Q c { s' with heap := h3 } →
      wpAny (model X.prog X.w) (X.A.mark (some (.ref a))) (eval (.Name x np) X.env) Q E { s' with heap := h3 } := fun {x c np b} hc _ {Q E} q => by
    obtain ⟨hg, hdb, hm | ⟨hm, hv, hnn⟩⟩ := hc
    · exact ld_glob (X := X.suite a ((a, oe) :: (X.pn ++ pins))) S3 hg hm q hdb
    · exact ld_blt (X := X.suite a ((a, oe) :: (X.pn ++ pins))) S3 hg hm hv q hnn hdb
  have LT : PySem.W.Looks (model X.prog X.w) h3 (typeOf (.ref a)) cls := fun A Q E s k q => wpAny_typeOf_ref (k _ _ he) (by rw [hz.1]; exact q)
  intro hds l hk
  induction hk with
  | nil =>
    intro w
    refine wpAny_handleBy_nil ?_
    obtain ⟨_, _, _, oe', vs', T', _, _, he', _, hd', h1', _⟩ := id fl
    unfold PySem.passOn
    refine wpAny_bind (wpAny_field he' hd' h1' ?_)
    rw [if_neg (show ¬ ((Value.ref T' == Value.none) = true) from by simp)]
    have fin : wpAny (model X.prog X.w) X.A (setFlight (.ref a) X.env.frame) (fun _ s4 => wpAny (model X.prog X.w) X.A (throw (.ref a) : Sem Flow) (SP X pins D) X.xe s4) X.xe { s' with heap := h3 } := by
      rw [hf]
      refine HandSPX.setFlight_upZ fl fun h4 hh4 up4 => wpAny_throw (tk _ _ ?_)
      exact ⟨a, B, sI, pins, σ, H, cls, d, rfl, J, nb, (up.trans up3).trans up4, .inr (.inr (by rw [hs]; exact hh4)), na, os, ag, w⟩
    first
      | exact wpAny_bind (wpAny_pure (wpAny_bind fin))
      | exact wpAny_bind fin
  | @plain x c ts b₀ bs np p hds2 l2 hc hsu r ih =>
    rintro ⟨b, hb, yes, no⟩
    refine wpAny_handleBy_cons (codeAny_handlers_test ?_) (by intro q; cases q)
    refine asked hc hb ((PySem.W.exm_one (M := model X.prog X.w) J3.kIn LT hb).here ?_)
    cases b with
    | false => exact ih (no rfl)
    | true =>
      refine codeAny_handlers_suite (HandSPX.lands_againZ fl fun h4 fl4 up4 => ?_)
      obtain ⟨oe4, vs4, he4, hz4, hd4⟩ := fl4.there
      have S4 := (J.landed nb fl4.1 ((up.trans up3).trans up4) os ag : Inv X pins σ H { s' with heap := h4 }).suite he4 hd4 na nL nF
      exact wpAny_mono ((hsu a oe4 cls d (X.pn ++ pins) hz4 ⟨_, hd4⟩).run [] _ _ H _ S4 (yes rfl a na)) (fun f s6 h => suite_end (l := X.pn ++ pins) ok h) (fun _ _ z => False.elim z)
  | @named x n i c ts b₀ bs np p hds2 l2 hi hl hc hsu r ih =>
    rintro ⟨b, hb, yes, no⟩
    refine wpAny_handleBy_cons (codeAny_handlers_test ?_) (by intro q; cases q)
    refine asked hc hb ((PySem.W.exm_one (M := model X.prog X.w) J3.kIn LT hb).here ?_)
    cases b with
    | false => exact ih (no rfl)
    | true =>
      refine codeAny_handlers_suite_as (HandSPX.lands_againZ fl fun h4 fl4 up4 => ?_)
      obtain ⟨oe4, vs4, he4, hz4, hd4⟩ := fl4.there
      have S4 := (J.landed nb fl4.1 ((up.trans up3).trans up4) os ag : Inv X pins σ H { s' with heap := h4 }).suite he4 hd4 na nL nF
      refine store_ok (X := X.suite a ((a, oe4) :: (X.pn ++ pins))) (v := .ref a) S4 hN hi (.inl hl) rfl (fun s5 S5 => ?_) (.inr hl)
      exact wpAny_mono ((hsu a oe4 cls d (X.pn ++ pins) hz4 ⟨_, hd4⟩).run [] s5 _ H _ S5 (yes rfl a na)) (fun f s6 h => named_end (l := X.pn ++ pins) ok hN hi hl h) (fun _ _ z => False.elim z)
/-- try: .., its clauses -/
theorem ps_try_clauses {body : List Stmt} {h₀ : ExceptHandler} {hds : List ExceptHandler} {l : List Clause} {pos : Pos} {tb : WX → TS} (hs : X.stack = X.env :: X.outer) (hf : X.env.frame = some X.env.locals) (hN : X.N.Nodup) (tk : Takes X Wout)
    (hb : ∀ (W : WX) (pn : List (Addr × Obj)) (xe : Value → Shared → Prop), Takes (X.tr pn xe) W → PassesOwn (model X.prog X.w) X.A X.env xe → PSs (X.tr pn xe) body (tb W))
    (hh : Clauses X (h₀ :: hds) l) : PS X (.Try body (h₀ :: hds) [] [] pos) (fun D σ H => tb (wClauses X.K Wout D l) D σ H) := by
  refine ⟨fun pins s σ H D I h => ?_⟩
  have ok := I.ok
  have hfr : X.A.frames = some (X.env :: X.outer) := by rw [ok.frames, hs]
  refine wpAny_Try_except (wpAny_mono ((hb (wClauses X.K Wout D l) (X.pn ++ pins) _ (fun u s' xx => ?_) PassesOwn.looking).run [] s σ H D (I.toTry _) h) (fun f s1 hsp => ?_) (fun e s1 he => he))
  · obtain ⟨a, B, sI, pins', σ', H', cls, d, rfl, J, nb, up, sky, na, os, ag, w⟩ := xx
    have J := J.ofTry ok
    show wpAny (model X.prog X.w) X.A (noteFrame (.ref a) X.env) _ _ _
    refine Sky.land Zc.steady hfr hf (by rw [← hs]; exact sky) fun h3 fl up3 => ?_
    exact clauses_run hs hf hN tk J nb up na os ag fl up3 hh w
  · cases f with
    | next => obtain ⟨σ', H', J, q⟩ := hsp; exact wpAny_execs_nil ⟨σ', H', J.ofTry ok, q⟩
    | brk => obtain ⟨σ', H', J, q⟩ := hsp; exact ⟨σ', H', J.ofTry ok, q⟩
    | cont => obtain ⟨σ', H', J, q⟩ := hsp; exact ⟨σ', H', J.ofTry ok, q⟩
    | ret u => obtain ⟨v, σ', H', J, r, q⟩ := hsp; exact ⟨v, σ', H', J.ofTry ok, r, q⟩
end
end Z

set_option maxRecDepth 100000
set_option maxHeartbeats 4000000
namespace Z
open PySem PySem.Spec PyProof.Rows L2
/-! ### a def's promises: weaker, of two sorts, where nothing is raised and where something is -/
section
variable {P : Program} {w : World} {K : PySem.W.Frag} {mg : Str → Option Value} {base : Heap} {CX : CXT} {k : Nat} {f : Addr} {fd : FuncData} {ps : List Str} {sp sp1 sp2 : Sp} {x : Str}
theorem FnG.imp (F : FnG P w K mg base CX k f fd ps sp) (h : ∀ vs H Q E, sp1 vs H Q E → sp vs H Q E) : FnG P w K mg base CX k f fd ps sp1 :=
  ⟨fun vs H Q E q => F.len vs H Q E (h _ _ _ _ q), fun A out s H args us vs Q E room gd e0 bi rv q => F.run A out s H args us vs Q E room gd e0 bi rv (h _ _ _ _ q)⟩
theorem FnG.lift (F : FnG P w K mg base CX0 k f fd ps sp) : FnG P w K mg base CX k f fd ps sp :=
  ⟨F.len, fun A out s H args us vs Q E room gd e0 bi rv q => codeAny_mono (F.run A out s H args us vs Q E room gd e0 bi rv q) fun r s' z => by
    cases r with
    | error e => exact False.elim z
    | ok fl => cases fl <;> exact z⟩
theorem FnG.either (F1 : FnG P w K mg base CX k f fd ps sp1) (F2 : FnG P w K mg base CX k f fd ps sp2) : FnG P w K mg base CX k f fd ps (fun vs H Q E => sp1 vs H Q E ∨ sp2 vs H Q E) :=
  ⟨fun vs H Q E q => q.elim (F1.len vs H Q E) (F2.len vs H Q E), fun A out s H args us vs Q E room gd e0 bi rv q => q.elim (F1.run A out s H args us vs Q E room gd e0 bi rv) (F2.run A out s H args us vs Q E room gd e0 bi rv)⟩
theorem Cg.imp (c : Cg P w K mg base CX k x sp) (h : ∀ vs H Q E, sp1 vs H Q E → sp vs H Q E) : Cg P w K mg base CX k x sp1 := by
  obtain ⟨f, fd, ps, F, q⟩ := c.ex
  exact ⟨f, fd, ps, F.imp h, q⟩
theorem FnR.lift (F : FnR P w K mg base CX0 k f sp) : FnR P w K mg base CX k f sp := fun A out s H us vs Q E room e0 rv q => codeAny_mono (F A out s H us vs Q E room e0 rv q) fun r s' z => by
  cases r with
  | error e => exact False.elim z
  | ok fl => cases fl <;> exact z
theorem FnR.either (F1 : FnR P w K mg base CX k f sp1) (F2 : FnR P w K mg base CX k f sp2) : FnR P w K mg base CX k f (fun vs H Q E => sp1 vs H Q E ∨ sp2 vs H Q E) :=
  fun A out s H us vs Q E room e0 rv q => q.elim (F1 A out s H us vs Q E room e0 rv) (F2 A out s H us vs Q E room e0 rv)
end
end Z

set_option maxRecDepth 100000
set_option maxHeartbeats 4000000
namespace Z
open PySem PySem.Spec PyProof.Rows L2
/-! ### set(tuple) of texts -/
section
variable {P : Program} {w : World} {s : Shared}
theorem begun_tup {l : Addr} {items : Array Value} (hl : s.heap.IsTuple l items) : Begun P w s.heap (.ref l) items.size (fun i v => items[i]? = some v) := by
  intro A' E' s1 Q k z hQ
  have lt : l < s.heap.objs.size := by obtain ⟨_, e, _⟩ := hl; exact Heap.lt_size e
  have hl1 : s1.heap.IsTuple l items := hl.at fun o e => k l o e
  refine wpAny_pyIter_tuple hl1 (hQ _ [s1.heap.objs.size, l] _ (fun A2 h2 => Walks.tuple h2 _ l (Nat.ne_of_lt (Nat.lt_of_lt_of_le lt z)) items) (fun b hb => ?_) ⟨⟨_, Heap.get?_push_size _ rfl, rfl, rfl⟩, hl1.push _⟩)
  have e' : b = s1.heap.objs.size ∨ b = l := by simpa using hb
  rcases e' with q | q
  · exact .inl q
  · exact .inr (by rw [q]; exact lt)
end
section
variable {X : Cx}
def rSetTp (P : Program) (w : World) (K : PySem.W.Frag) : List V → Hp → VK → Prop := fun vs H Q => ∃ (ks : List Str) (l : Addr), vs = [.ref l] ∧ SqT K H l (ks.map V.str) ∧ (ks.length + 1 < scanBound ∨ ∃ U : List Str, (∀ k ∈ ks, k ∈ U) ∧ U.length + 1 < scanBound) ∧
  ∀ (p : Addr) (n : Nat), H p = none → Q (.ref p) (upd H p (SetT P w p (fun k => decide (k ∈ ks)) n))
theorem call_setTp (P : Program) (w : World) (K : PySem.W.Frag) (hP : X.prog = P := by rfl) (hw : X.w = w := by rfl) (hK : X.K = K := by rfl) (hc : X.calm = true := by rfl) : CallR X (.type "set") (rSetTp P w K) := by
  subst hP hw hK
  intro pins s σ H vs us Q I r h
  obtain ⟨ks, l, rfl, hq, room, q⟩ := h
  obtain rfl := Vals.ref1 r
  obtain ⟨its, rv, pl, _⟩ := I.tuple hq
  have ln := rv.length
  rw [List.length_map] at ln
  have room : ∀ (h : Heap) (i c : Nat), i < ks.length → c ≤ i → SetG (PySem.strKind X.prog X.w) h s.heap.objs.size (fun j => decide (j ∈ ks.take i)) c → c + 1 < scanBound := fun h i c hi hc z => by
    rcases room with r | ⟨U, hU, r⟩
    · omega
    · obtain ⟨l, l1, l2, l3⟩ := z.keys
      have sub : ∀ y ∈ l, y ∈ U := fun y hy => hU y (List.mem_of_mem_take (of_decide_eq_true ((l3 y).mpr hy)))
      by_cases g : U.length ≤ l.length
      · have := (perm_of_sub l U l1 sub g).length_eq
        omega
      · omega
  obtain ⟨o, eo, co, no, eo2⟩ := id pl
  refine call_setW ks (I.ok.hd hc) (fun s1 up => (show s1.TypeIs (.ref l) "tuple" from ⟨o, up _ _ eo, co⟩)) PySem.F.sub_tuple_set PySem.F.sub_tuple_frozenset (by decide) (begun_tup ?_) (by rw [List.size_toArray, ln]) room (fun i u hu => ?_)
    (fun h' tk c z _ up => ⟨.ref _, _, I.laid (t' := tk) up (Nat.le_refl _) (setT_new z), rfl, q _ c (I.hok.fresh (Nat.le_refl _))⟩)
  · exact ⟨o, eo, co, no, eo2⟩
  · have hu' : its[i]? = some u := by simpa using hu
    have hi : i < ks.length := by
      have := (List.getElem?_eq_some_iff.mp hu').1
      omega
    obtain ⟨u2, e2, t, r2⟩ := rv.get (i := i) (x := .str ks[i]) (by rw [List.getElem?_map, List.getElem?_eq_getElem hi]; rfl)
    rw [hu'] at e2
    cases e2
    subst r2
    exact ⟨_, List.getElem?_eq_getElem hi, PySem.strKind_is _ _ _ _, rfl⟩
end
end Z

set_option maxRecDepth 100000
set_option maxHeartbeats 4000000
namespace Z
open PySem PySem.Spec PyProof.Rows L2
/-! ### methods and the making of instances, where no repr is under way -/
section
variable {X : Cx} {CX : CXT} {k : Nat} {f C : Addr} {fd : FuncData} {ps : List Str} {sp : Sp} {E : XK} {x m : Str} {p pos apos : Pos} {e o : Expr} {es : List Expr} {ta : TE} {t : TA}
theorem run_fnG {pins : List (Addr × Obj)} {σ : L2.St} {H : Hp} {s : Shared} {Q : VK} {us : List Value} {vs : List V} (F : FnG X.prog X.w X.K X.mg X.base CX k f fd ps sp) (hr : Room k X.A) (gd : X.A.guards = some []) (hb : Binds X.K fd ps []) (hx : Passes CX X E)
    (I : Inv X pins σ H s) (r : Vals vs us) (h : sp vs H Q E) : wpAny (model X.prog X.w) X.A (call (.ref f) us) (EP X pins σ Q) X.xe s := by
  have hl : us.length = ps.length := by rw [← r.length]; exact F.len _ _ _ _ h
  have bi := hb s us I.kIn (by rw [List.append_nil]; exact hl)
  rw [List.append_nil] at bi
  refine wpAny_call (codeAny_mono (F.run X.A X.stack s H ⟨us, []⟩ us vs Q E hr gd I.env0 bi r h) fun r s' hq => ?_)
  cases r with
  | error e => exact hx pins σ H s e s' I hq
  | ok fl => cases fl <;> first | exact I.after hq | exact False.elim hq
/-- a method of the class at C -/
structure Cm (P : Program) (w : World) (K : PySem.W.Frag) (mg : Str → Option Value) (base : Heap) (CX : CXT) (k : Nat) (C : Addr) (m : Str) (sp : Sp) : Prop where
  ex : ∃ (f : Addr) (fd : FuncData) (ps : List Str), FnG P w K mg base CX k f fd ps sp ∧ Meth K C m f ∧ Binds K fd ps []
/-- o.m(e, ..) -/
theorem pe_cm {j : Nat} {pl : Sem Bool} (he : PE X o ta) (cl : Cls X.K C) (c : Cm X.prog X.w X.K X.mg X.base CX k C m sp) (hr : Room j X.A) (gd : X.A.guards = some []) (hk : k ≤ j) (hx : Passes CX X E) (ha : PA X (e :: es) t)
    (hst : starEach (e :: es) X.env = (false, eval e X.env) :: starEach es X.env := by rfl) (hpl : (backTo pos (starEach es X.env)).any (·.1) = false := by rfl)
    (ht : eval (.Call (.Attribute o m apos) (e :: es) [] pos) X.env = (do
      let ov ← eval o X.env
      standAt apos.atName
      let (f, first) ← holding [ov] (getMethod ov m pl)
      callWith pos f first (backTo pos (starEach (e :: es) X.env)) (backToKw pos (keywordEach [] X.env))) := by rfl) :
    PE X (.Call (.Attribute o m apos) (e :: es) [] pos) (tMeth C m sp [] E ta t) := by
  obtain ⟨f, fd, ps, F, hm, hb⟩ := c.ex
  refine ⟨fun pins s σ H Q I h => ?_⟩
  refine PySem.W.methodCall_KW (pl := pl) (thn (he.run pins s σ H _ I h) fun u s1 ⟨x, H1, I1, rx, a, dx, fs, ex, ea, l, q⟩ => ?_) ht
  subst ex
  obtain rfl : u = Value.ref a := rx
  refine getmeth_ok I1 ea cl hm l ?_
  refine PySem.W.callWith_K (first := [.ref a]) (h₀ := X.base) I.ok.mod.kin hm.kp (thn (ha.run pos pins s1 σ H1 _ I1 q) fun us s2 ⟨vs, H2, I2, r, q2⟩ => ⟨I2.kIn, ?_⟩) hst hpl
  have q2 : sp (V.ref a :: (vs ++ [])) H2 Q E := q2
  rw [List.append_nil] at q2
  exact run_fnG (us := .ref a :: us) (vs := .ref a :: vs) F (hr.mono hk) gd hb hx I2 (.cons rfl r) q2
/-- o.m() -/
theorem pe_cm0 {j : Nat} {pl : Sem Bool} (he : PE X o ta) (cl : Cls X.K C) (c : Cm X.prog X.w X.K X.mg X.base CX k C m sp) (hr : Room j X.A) (gd : X.A.guards = some []) (hk : k ≤ j) (hx : Passes CX X E)
    (ht : eval (.Call (.Attribute o m apos) [] [] pos) X.env = (do
      let ov ← eval o X.env
      standAt apos.atName
      let (f, first) ← holding [ov] (getMethod ov m pl)
      callWith pos f first (backTo pos (starEach [] X.env)) (backToKw pos (keywordEach [] X.env))) := by rfl) :
    PE X (.Call (.Attribute o m apos) [] [] pos) (tMeth C m sp [] E ta tNil) := by
  obtain ⟨f, fd, ps, F, hm, hb⟩ := c.ex
  refine ⟨fun pins s σ H Q I h => ?_⟩
  refine PySem.W.methodCall_KW (pl := pl) (thn (he.run pins s σ H _ I h) fun u s1 ⟨x, H1, I1, rx, a, dx, fs, ex, ea, l, q⟩ => ?_) ht
  subst ex
  obtain rfl : u = Value.ref a := rx
  refine getmeth_ok I1 ea cl hm l ?_
  exact PySem.W.callWith_K0 (first := [.ref a]) I1.kIn hm.kp (run_fnG (us := [.ref a]) (vs := [.ref a]) F (hr.mono hk) gd hb hx I1 (.cons rfl .nil) q)
/-- the making of instances of x -/
structure Cmk (P : Program) (w : World) (K : PySem.W.Frag) (mg : Str → Option Value) (base : Heap) (CX : CXT) (k : Nat) (C : Addr) (x : Str) (sp : Sp) : Prop where
  ex : ∃ (f : Addr) (fd : FuncData) (ps : List Str), FnG P w K mg base CX k f fd ps sp ∧ Mk K C f ∧ mg x = some (.ref C) ∧ Binds K fd ps []
/-- x(e, ..) -/
theorem pe_cmk {j : Nat} (c : Cmk X.prog X.w X.K X.mg X.base CX k C x sp) (hr : Room j X.A) (gd : X.A.guards = some []) (hk : k + 1 ≤ j) (hg : Gl X x) (hx : Passes CX X E) (ha : PA X (e :: es) t)
    (hdb : (x == ("__debug__" : Str)) = false := by decide) (he : starEach (e :: es) X.env = (false, eval e X.env) :: starEach es X.env := by rfl) (hpl : (backTo pos (starEach es X.env)).any (·.1) = false := by rfl) :
    PE X (.Call (.Name x p) (e :: es) [] pos) (tMake C sp [] E t) := by
  obtain ⟨f, fd, ps, F, M, hm, hb⟩ := c.ex
  refine ⟨fun pins s σ H Q I h => ?_⟩
  refine wpAny_Call_Name_kw (ld_glob I hg hm ?_ hdb)
  refine PySem.W.callWith_K (h₀ := X.base) I.ok.mod.kin M.kp (thn (ha.run pos pins s σ H _ I h) fun us s1 ⟨vs, H1, I1, r, q⟩ => ⟨I1.kIn, ?_⟩) he hpl
  have hq := q (s1.heap.objs.size + 1) s1.heap.objs.size (I1.hok.fresh (Nat.le_succ _)) (I1.hok.fresh (Nat.le_refl _)) (Nat.ne_of_lt (Nat.lt_succ_self _))
  rw [List.append_nil] at hq
  have I2 := Inv.made (C := C) I1
  have r2 : Vals (V.ref (s1.heap.objs.size + 1) :: vs) (Value.ref (s1.heap.objs.size + 1) :: us) := .cons rfl r
  have hl : (Value.ref (s1.heap.objs.size + 1) :: us).length = ps.length := by
    have e := r2.length
    rw [F.len _ _ _ _ hq] at e
    exact e.symm
  have bi := hb _ (Value.ref (s1.heap.objs.size + 1) :: us) I2.kIn (by rw [List.append_nil]; exact hl)
  rw [List.append_nil] at bi
  refine wpAny_call (make_map (f := f) I1.kIn M.makes M.init (beq_iff_eq.mp M.fn) (codeAny_mono (F.run _ X.stack _ _ ⟨Value.ref (s1.heap.objs.size + 1) :: us, []⟩ (Value.ref (s1.heap.objs.size + 1) :: us) _ _ E ((hr.mono hk).make C us []) ?_
    (I2.env0.make C us []) bi r2 hq) fun r s' hq' => ?_))
  · exact gd
  cases r with
  | error e => exact hx pins σ _ _ e s' I2 hq'
  | ok fl =>
    cases fl with
    | ret u =>
      obtain ⟨v, H', I3, rv, ev, q3⟩ := I2.after hq'
      subst ev
      exact ⟨rv, ⟨V.ref (s1.heap.objs.size + 1), H', I3, rfl, q3⟩⟩
    | next => exact False.elim hq'
    | brk => exact False.elim hq'
    | cont => exact False.elim hq'
end
end Z
namespace Z
open PySem PySem.Spec PyProof.Rows L2
/-! ### fields of instances, the class named -/
section
variable {X : Cx} {o e value : Expr} {f : Str} {pos pos' : Pos} {ta tv : TE}
theorem pe_fldK (K : PySem.W.Frag) (he : PE X e ta) (hK : X.K = K := by rfl) (hb : attributeBase e f X.env (eval e X.env) = eval e X.env := by rfl) : PE X (.Attribute e f pos) (tFld K ta f) := by
  subst hK
  exact pe_fld he hb
theorem ps_fldK (K : PySem.W.Frag) (ha : PE X o ta) (hv : PE X value tv) (hK : X.K = K := by rfl) (hs : swapsWith value (some (.Attribute o f pos')) pos.line X.env = pure false := by rfl) : PS X (.Assign [.Attribute o f pos'] value pos) (sFld K ta tv f) := by
  subst hK
  exact ps_fld ha hv hs
end
/-- a class of the program's own: its fields' names, how it is made -/
structure OwnC (K : PySem.W.Frag) (mg : Str → Option Value) (x : Str) (fs : List Str) : Prop where
  g : mg x = some (.ref (He.ga K x))
  cls : Cls K (He.ga K x)
  no : ∀ f ∈ fs, NoAttr K (He.ga K x) f
  made : Mk K (He.ga K x) (He.ma K (He.ga K x) "__init__")
/-- e.f, a field of an instance of x -/
theorem fldO {K : PySem.W.Frag} {mg : Str → Option Value} {x : Str} {ns : List Str} (O : OwnC K mg x ns) {a dx : Addr} {fs : List (Str × V)} {f : Str} {v : V} {H : Hp} {Q : VK} (e : H a = some (.ins (He.ga K x) dx fs)) (hf : f ∈ ns) (l : fs.lookup f = some v) (q : Q v H) :
    ∃ a' C dx' fs' v', V.ref a = .ref a' ∧ H a' = some (.ins C dx' fs') ∧ Cls K C ∧ NoAttr K C f ∧ fs'.lookup f = some v' ∧ Q v' H := ⟨a, _, dx, fs, v, rfl, e, O.cls, O.no f hf, l, q⟩
end Z

set_option maxRecDepth 100000
set_option maxHeartbeats 4000000
namespace Z
open PySem PySem.Spec PyProof.Rows L2
/-! ### len, repr, == and != by own methods -/
section
variable {X : Cx} {CX : CXT} {k j : Nat} {C : Addr} {sp : Sp} {E : XK}
theorem run_atG {A : Around} {pins : List (Addr × Obj)} {σ : L2.St} {H : Hp} {s : Shared} {Q : VK} {us : List Value} {vs : List V} {f : Addr} {fd : FuncData} {ps : List Str} (F : FnG X.prog X.w X.K X.mg X.base CX k f fd ps sp) (hr : Room k A) (hf : A.frames = X.A.frames) (gd : A.guards = some [])
    (hb : Binds X.K fd ps []) (hx : Passes CX X E) (I : Inv X pins σ H s) (r : Vals vs us) (h : sp vs H Q E) : wpAny (model X.prog X.w) A (call (.ref f) us) (EP X pins σ Q) X.xe s := by
  have hl : us.length = ps.length := by rw [← r.length]; exact F.len _ _ _ _ h
  have bi := hb s us I.kIn (by rw [List.append_nil]; exact hl)
  rw [List.append_nil] at bi
  have e := I.env0
  have e0 : Env0 X.prog X.w X.K X.mg X.base A X.stack s H := ⟨by rw [hf]; exact e.frames, e.mod, e.bs, e.bsz, e.funs, e.frf, e.hok, e.bare⟩
  refine wpAny_call (codeAny_mono (F.run A X.stack s H ⟨us, []⟩ us vs Q E hr gd e0 bi r h) fun r s' hq => ?_)
  cases r with
  | error e => exact hx pins σ H s e s' I hq
  | ok fl => cases fl <;> first | exact I.after hq | exact False.elim hq
/-- len(o) -/
def rLenO (C : Addr) (sp : Sp) (E : XK) : List V → Hp → VK → Prop := fun vs H Q => ∃ a dx fs, vs = [.ref a] ∧ H a = some (.ins C dx fs) ∧ sp [.ref a] H (fun v H' => ∃ n : Int, v = .int n ∧ (0 ≤ n ∧ n < 2 ^ 63) ∧ Q (.int n) H') E
theorem call_lenO (c : Cm X.prog X.w X.K X.mg X.base CX k C "__len__" sp) (hr : Room j X.A) (gd : X.A.guards = some []) (hk : k + 1 ≤ j) (hx : Passes CX X E) : CallR X (.builtin "len") (rLenO C sp E) := by
  intro pins s σ H xs us Q I r h
  obtain ⟨a, dx, fs, rfl, e, q⟩ := h
  obtain ⟨u, rfl, rx⟩ := vals1 r
  cases rx
  obtain ⟨f, fd, ps, F, hm, hb⟩ := c.ex
  obtain ⟨mA, J, _⟩ := ins_get I.hok e
  obtain ⟨od, J, _⟩ := J.look
  obtain ⟨m, hF⟩ := I.fr
  refine PySem.W.len_K hF I.ok.mod.kin J hm.at_ hm.fn ?_
  refine wpAny_mono (run_atG (vs := [V.ref a]) (us := [Value.ref a]) F (hr.mono hk).in1 rfl gd hb hx I (.cons rfl .nil) q) (fun v s' z => ?_) fun _ _ z => z
  obtain ⟨y, H', I', ry, n, rfl, hn, q⟩ := z
  obtain ⟨t, rfl⟩ := ry
  exact ⟨hn, .int n, H', I'.tok _, ⟨_, rfl⟩, q⟩
/-- repr(o) -/
def rReprO (C : Addr) (sp : Sp) (E : XK) : List V → Hp → VK → Prop := fun vs H Q => ∃ a dx fs, vs = [.ref a] ∧ H a = some (.ins C dx fs) ∧ sp [.ref a] H (fun v H' => ∃ y : Str, v = .str y ∧ Q (.str y) H') E
theorem call_reprO (c : Cm X.prog X.w X.K X.mg X.base CX k C "__repr__" sp) (hr : Room j X.A) (gd : X.A.guards = some []) (hk : k + 1 ≤ j) (hx : Passes CX X E) : CallR X (.builtin "repr") (rReprO C sp E) := by
  intro pins s σ H xs us Q I r h
  obtain ⟨a, dx, fs, rfl, e, q⟩ := h
  obtain ⟨u, rfl, rx⟩ := vals1 r
  cases rx
  obtain ⟨f, fd, ps, F, hm, hb⟩ := c.ex
  obtain ⟨mA, J, _⟩ := ins_get I.hok e
  obtain ⟨od, J, _⟩ := J.look
  obtain ⟨m, hF⟩ := I.fr
  refine PySem.W.repr_K (hr.mono hk).in1.units0 hF I.ok.mod.kin J hm.at_ hm.fn ?_
  refine wpAny_mono (run_atG (vs := [V.ref a]) (us := [Value.ref a]) F (hr.mono hk).in1 rfl gd hb hx I (.cons rfl .nil) q) (fun v s' z => ?_) fun _ _ z => z
  obtain ⟨y, H', I', ry, n, rfl, q⟩ := z
  obtain ⟨t, rfl⟩ := ry
  exact ⟨.str n, H', I', ⟨_, rfl⟩, q⟩
/-- what == and !=, isinstance ask of a class with its own __eq__ -/
structure OwnE (K : PySem.W.Frag) (C : Addr) : Prop where
  ne : PySem.W.findIn K (.ref C) "__ne__" = some (some (.builtin "object.__ne__"))
  ob : PySem.W.mroIn K C (.type "object") = some true
  is : PySem.W.kitOne K (.ref C) (.ref C) = some true
  ha : PySem.W.findIn K (.ref C) "__class__" = some (some (.builtin "object.__class__"))
  hn : PySem.W.specialIn K (.builtin "object.__class__") "__get__" = some (some (.builtin "getset_descriptor.__get__"))
  htk : PySem.W.takesIn K (.builtin "object.__class__") = some true
def ownEB (K : PySem.W.Frag) (C : Addr) : Bool := decide (PySem.W.findIn K (.ref C) "__ne__" = some (some (.builtin "object.__ne__"))) && (decide (PySem.W.mroIn K C (.type "object") = some true) && (decide (PySem.W.kitOne K (.ref C) (.ref C) = some true) &&
  (decide (PySem.W.findIn K (.ref C) "__class__" = some (some (.builtin "object.__class__"))) && (decide (PySem.W.specialIn K (.builtin "object.__class__") "__get__" = some (some (.builtin "getset_descriptor.__get__"))) && decide (PySem.W.takesIn K (.builtin "object.__class__") = some true)))))
theorem ownEB_ok {K : PySem.W.Frag} {C : Addr} (h : ownEB K C = true) : OwnE K C := by
  obtain ⟨h1, h⟩ := Bool.and_eq_true_iff.mp h
  obtain ⟨h2, h⟩ := Bool.and_eq_true_iff.mp h
  obtain ⟨h3, h⟩ := Bool.and_eq_true_iff.mp h
  obtain ⟨h4, h⟩ := Bool.and_eq_true_iff.mp h
  obtain ⟨h5, h6⟩ := Bool.and_eq_true_iff.mp h
  exact ⟨of_decide_eq_true h1, of_decide_eq_true h2, of_decide_eq_true h3, of_decide_eq_true h4, of_decide_eq_true h5, of_decide_eq_true h6⟩
theorem OwnE.ins {K : PySem.W.Frag} {C : Addr} (O : OwnE K C) (c : Cls K C) : C8.InsC K C := ⟨c, O.ha, O.hn, O.htk, O.ob, O.is⟩
section
variable {prog : Program} {w : World} {A : Around} {M : Model} {Ek : Value → Shared → Prop} {s : Shared} {K : PySem.W.Frag} {x y f : Addr} {ox oy : Obj} {od od' : Option Obj} {name : Str} {id : String}
theorem ifBoundB {args : List Value} {Q : Option Value → Shared → Prop} (Xk : K.In s.heap) (I : PySem.W.InstAt s.heap x ox C od) (hs : PySem.W.findIn K (.ref C) name = some (some (.builtin id))) (hb : ∀ self, bindSpecial (.builtin id) self = pure (.builtin id, [self]))
    (h : wpAny M A (call (.builtin id) (.ref x :: args)) (fun v => Q (some v)) Ek s) : wpAny M A (callSpecialIfBound? (.ref x) name args) Q Ek s := by
  simp only [callSpecialIfBound?, bindSpecialIfBound?]
  refine wpAny_holding (wpAny_bind (wpAny_bind (wpAny_bind (I.type.here ((PySem.W.looks_findIn Xk hs).here ?_)))))
  refine wpAny_bind (wpAny_askSetting (wpAny_ite ?_))
  have fin : wpAny M A (call (.builtin id) ([.ref x] ++ args) >>= fun v => pure (some v)) Q Ek s := wpAny_bind (wpAny_mono h (fun v s' h' => wpAny_pure h') fun _ _ h' => h')
  split
  · exact wpAny_bind ((PySem.W.Looks.of_pure (hb _)).here (wpAny_pure (by exact fin)))
  · exact wpAny_tryCatch (wpAny_bind ((PySem.W.Looks.of_pure (hb _)).here (wpAny_pure (by exact fin))))
open Builtin in
theorem objNe {Q : Value → Shared → Prop} {b : Value} (hu : A.in1.units < cLine) (Xk : K.In s.heap) (I : PySem.W.InstAt s.heap x ox C od) (O : OwnE K C) (hr : PySem.W.findIn K (.ref C) "__eq__" = some (some (.ref f))) (hf : PySem.W.isFn K (.ref f) = true)
    (h : wpAny (model prog w) A.in1 (call (.ref f) [.ref x, b]) (fun v s' => ∃ r, v = .bool r ∧ Q (.bool (!r)) s') Ek s) : wpAny (model prog w) A (call (.builtin "object.__ne__") [.ref x, b]) Q Ek s := by
  refine wpAny_call (codeAny_call_builtin PySem.F.slot_object_ne.plain PySem.F.entry_object_ne (PySem.W.check_slot (i := "object.__ne__") (owner := "object") (n := "__ne__") (by decide +kernel) (by decide +kernel) (I.type.andThen (PySem.W.looks_mroIn Xk O.ob)) (PySem.F.args_object_ne_2 _ _) ?_))
  unfold Builtin.«object.__ne__»
  refine wpAny_bind (m := slotArgs "__ne__" 1 _) (wpAny_pure ?_)
  refine wpAny_bind (m := cRoomFor _ _) (wpAny_cRoomFor hu ?_)
  refine wpAny_bind (m := callSpecialIfBound? (.ref x) (Str.ofString "__eq__") _) (PySem.W.ifBound_K Xk I hr hf (wpAny_mono h (fun r s' hq => ?_) fun _ _ y => y))
  obtain ⟨b, rfl, q⟩ := hq
  exact wpAny_bind (m := truthy (.bool _)) (wpAny_truthy_bool (wpAny_pure q))
theorem ne_own {Q : Value → Shared → Prop} (hu : A.in1.units < cLine) (Xk : K.In s.heap) (I : PySem.W.InstAt s.heap x ox C od) (J : PySem.W.InstAt s.heap y oy C od') (O : OwnE K C) (hr : PySem.W.findIn K (.ref C) "__eq__" = some (some (.ref f))) (hf : PySem.W.isFn K (.ref f) = true)
    (h : wpAny (model prog w) A.in1 (call (.ref f) [.ref x, .ref y]) (fun v s' => ∃ r, v = .bool r ∧ Q (.bool (!r)) s') Ek s) : wpAny (model prog w) A (compareOp .NotEq (.ref x) (.ref y)) Q Ek s := by
  have one : wpAny (model prog w) A (tryCompare (.ref x) (cmpInfo .NotEq).2.1 (.ref y)) (fun r s' => ∃ v, r = some v ∧ Q v s') Ek s := by
    unfold tryCompare
    refine wpAny_bind (ifBoundB Xk I O.ne PySem.F.slot_object_ne.bind (objNe hu Xk I O hr hf (wpAny_mono h (fun v s' hv => ?_) fun _ _ e => e)))
    obtain ⟨r, rfl, q⟩ := hv
    exact ⟨r, rfl, wpAny_pure ⟨_, rfl, q⟩⟩
  show wpAny _ _ (richCompare .NotEq (.ref x) (.ref y)) _ _ _
  have hu0 : A.units < cLine := Nat.lt_of_succ_lt hu
  unfold richCompare
  simp only [oneThing_ref]
  refine wpAny_holding (wpAny_bind (wpAny_cRoomFor hu0 ?_))
  refine wpAny_bind (I.type.here (wpAny_bind (J.type.here ?_)))
  rw [show (Value.ref C != Value.ref C) = false from by simp]
  simp only [Bool.false_eq_true, if_false]
  refine wpAny_bind (wpAny_pure ?_)
  simp only [Bool.false_eq_true, if_false]
  refine wpAny_bind (wpAny_mono one (fun r s' z => ?_) fun _ _ e => e)
  obtain ⟨v, rfl, hq⟩ := z
  exact wpAny_pure hq
end
/-- o != p, o == p: two instances of the class -/
def rCmpO (C : Addr) (g : Bool → Bool) (sp : Sp) (E : XK) : R2 := fun x y H Q => ∃ a b dx dy fs gs, x = .ref a ∧ y = .ref b ∧ H a = some (.ins C dx fs) ∧ H b = some (.ins C dy gs) ∧ sp [.ref a, .ref b] H (fun v H' => ∃ r, v = .bl r ∧ Q (.bl (g r)) H') E
theorem op_neO (c : Cm X.prog X.w X.K X.mg X.base CX k C "__eq__" sp) (O : OwnE X.K C) (hr : Room j X.A) (gd : X.A.guards = some []) (hk : k + 2 ≤ j) (hx : Passes CX X E) : OpR X (compareOp .NotEq) (rCmpO C not sp E) := by
  intro pins s σ H x y v u Q I rx ry h
  obtain ⟨a, b, dx, dy, fs, gs, rfl, rfl, ea, eb, q⟩ := h
  cases rx
  cases ry
  obtain ⟨f, fd, ps, F, hm, hb⟩ := c.ex
  obtain ⟨mA, J, _⟩ := ins_get I.hok ea
  obtain ⟨mB, J2, _⟩ := ins_get I.hok eb
  obtain ⟨od, J, _⟩ := J.look
  obtain ⟨od2, J2, _⟩ := J2.look
  have r2 := (hr.mono hk).in1
  refine ne_own (hr.mono hk).in1.units0 I.kIn J J2 O hm.at_ hm.fn ?_
  refine wpAny_mono (run_atG (vs := [V.ref a, V.ref b]) (us := [Value.ref a, Value.ref b]) F (r2.mono (Nat.le_succ _)) rfl gd hb hx I (.cons rfl (.cons rfl .nil)) q) (fun v s' z => ?_) fun _ _ z => z
  obtain ⟨y, H', I', ry, r, rfl, q⟩ := z
  cases ry
  exact ⟨r, rfl, .bl (!r), H', I', rfl, q⟩
end
/-! ### str(int), tuple.index, a list unpacked, data that are equal -/
section
variable {X : Cx}
theorem call_strZ : CallR X (.type "str") (fun xs H Q => ∃ i, xs = [.int i] ∧ i.natAbs.log2 < 1920 ∧ Q (.str (toString i)) H) := call_str_int
theorem mt_tupIx (K : PySem.W.Frag) (hK : X.K = K := by rfl) : MtR X "tuple.index" (fun x xs H Q => ∃ p, ∃ ys : List Str, ∃ z j, x = .ref p ∧ xs = [.str z] ∧ SqT K H p (ys.map V.str) ∧ ys[j]? = some z ∧ (∀ m, m < j → ys[m]? ≠ some z) ∧ Q (.int (j : Nat)) H) := by
  subst hK
  exact mt_tup_index
theorem pg_unlK {es : List Expr} {kk : Nat} {pos : Pos} {t : TGs} (K : PySem.W.Frag) (n : Nat) (h : PGs X es t) (hK : X.K = K := by rfl) (hc : X.calm = true := by rfl)
    (hn : (assignEach es X.env).length = n := by rfl) (hst : (assignEach es X.env).findIdx? (·.1) = none := by rfl) : PG X (.Tuple es kk pos) (gUnl K n t) := by
  subst hK
  exact pg_unl hc h hn hst
end
theorem nice_shaped {R n : Nat} {d : PyData} (h : Nice R n d) (hn : n ≤ 64) (hd : d.hasDict = false) : SeqAt.shaped d = true := by
  show (PyData.canLay0 d && decide (PyData.depth d ≤ 64)) = true
  rw [h.ly hd, decide_eq_true (Nat.le_trans h.dp hn)]
  rfl
theorem eqTh {K : PySem.W.Frag} {f : Bool → Bool} {H : Hp} {Q : VK} {p q : Addr} {d : PyData} {R n : Nat} (h1 : Th K H (.ref p) d) (h2 : Th K H (.ref q) d) (h : Nice R n d) (hn : n ≤ 64) (hd : d.hasDict = false) (k : Q (.bl (f true)) H) : rEqZ K f (.ref p) (.ref q) H Q := by
  refine ⟨d, d, h1.dp d _ hd, h2.dp d _ hd, nice_shaped h hn hd, nice_shaped h hn hd, ?_⟩
  rw [PySem.SeqAt.eqv_refl d (h.ly hd)]
  exact k
/-- a constant tuple without a dict: its methods may be called -/
def plainTupB (K : PySem.W.Frag) (x : Str) : Bool := match K.lookup (He.ga K x) with
  | some ⟨.type c, none, _, _⟩ => decide (c = "tuple")
  | _ => false
theorem plainTup_ok {K : PySem.W.Frag} {x : Str} (h : plainTupB K x = true) (H : Hp) : tyV K "tuple" (.ref (He.ga K x)) H := by
  unfold plainTupB at h
  cases q : K.lookup (He.ga K x) with
  | none => rw [q] at h; cases h
  | some o =>
    rw [q] at h
    obtain ⟨oc, od, dt, osl⟩ := o
    cases oc <;> cases od <;> first | cases h | skip
    have e := of_decide_eq_true h
    exact .inr (.inl ⟨rfl, _, q, by rw [e], rfl⟩)
end Z

set_option maxRecDepth 100000
set_option maxHeartbeats 4000000
namespace Z
open PySem PySem.Spec PyProof.Rows L2
/-! ### what is hidden stands there, no bag -/
def Hid (B : Addr → Bool) (H : Hp) : Prop := ∀ a, B a = true → H a ≠ none
section
variable {B : Addr → Bool} {H H' : Hp} {p : Addr} {o : HO}
theorem Hid.off (h : Hid B H) (n : H p = none) : B p = false := by
  cases e : B p with
  | false => rfl
  | true => exact absurd n (h p e)
theorem Hid.same (h : Hid B H) (s : Same H H') : Hid B H' := fun a z => by
  cases q : H a with
  | none => exact absurd q (h a z)
  | some o => rw [s a o q]; exact Option.some_ne_none o
theorem Hid.more (h : Hid B H) (e : H p = some o) : Hid (hide p B) H := fun a z => by
  unfold hide at z
  rcases Bool.or_eq_true_iff.mp z with z | z
  · rw [of_decide_eq_true z, e]
    exact Option.some_ne_none o
  · exact h a z
theorem Hid.nope (H : Hp) : Hid (fun _ => false) H := fun _ z => by cases z
theorem Wd.hid {K : PySem.W.Frag} {ω : Bg} (w : Wd K B ω H) : Hid B H := w.hB
theorem hd_nope (H : Hp) : hd (fun _ => false) H = H := by
  funext a
  unfold hd
  rfl
theorem hd_le (B : Addr → Bool) (H : Hp) : Same (hd B H) H := fun a o z => (hd_some z).2
/-- a new object is seen -/
theorem hd_new (h : Hid B H) (n : H p = none) : hd B (upd H p o) p = some o := hd_of (h.off n) upd_same
theorem hd_more (B : Addr → Bool) (p : Addr) (H : Hp) : Same (hd (hide p B) H) (hd B H) := fun a o z => by
  obtain ⟨h1, h2⟩ := hd_some z
  unfold hide at h1
  exact hd_of (by
    cases q : B a with
    | false => rfl
    | true => rw [q, Bool.or_true] at h1; cases h1) h2
end
/-! ### a comprehension whose answers are told by a property -/
section
variable {K : PySem.W.Frag} {wi : TI} {xs : List V} {G : Hp → Prop} {j : Nat} {vs : List Nat} {σ : L2.St} {te : TE} {H : Hp} {Q : VK}
theorem tlcR (J : It) (xs : List V) (G : Hp → Prop) (B : Addr → Bool) (hB : Hid B H) (P : Nat → V → Hp → Prop) (mono : ∀ i y G1 G2, Same G1 G2 → P i y G1 → P i y G2)
    (hw : ∀ R : It → Hp → Prop, (∀ H1, Same H H1 → G H1 → R J H1) → wi σ H R) (w : Walk J xs.length G (YAt xs)) (hG : ∀ H1 H2, Same H1 H2 → G H1 → G H2) (hz : xs.length ≤ 100000)
    (he : ∀ i x B' H', xs[i]? = some x → (∀ a, B a = true → B' a = true) → Same H H' → Same (hd B H) (hd B' H') → Hid B' H' → ∀ Q' : VK, (∀ y H4, Same H' H4 → P i y (hd B' H4) → Q' y H4) → te ((σ.set j none).set j (some x)) H' Q')
    (k : ∀ D acc H', H D = none → acc.length = xs.length → (∀ (i : Nat) y, acc[i]? = some y → P i y (hd (hide D B) H')) → Same H H' → Hid B H' → H' D = some (.lst acc) → Q (.ref D) H') (hv : vs = [j] := by rfl) : tLc wi (gName j) tYes te vs σ H Q := by
  subst hv
  refine hw _ fun H1 s1 g1 => ?_
  intro D hD
  have hD0 : H D = none := s1.free hD
  have bD : B D = false := hB.off hD0
  refine lc_it w (fun i H' => ∃ acc, acc.length = i ∧ Same H1 H' ∧ H' D = some (.lst acc) ∧ ∀ (n : Nat) y, acc[n]? = some y → P n y (hd (hide D B) H')) ⟨[], rfl, same_new hD, upd_same, fun n y z => by simp at z⟩ ?_ ?_ ?_
  · rintro i H' _ ⟨acc, _, s', _, _⟩
    exact hG H1 H' s' g1
  · rintro i x H2 H3 hi ⟨acc, hl, s', hd', iv⟩ ⟨rfl, hx⟩
    refine ⟨wipe_set σ j _, ?_⟩
    have s02 := s1.trans s'
    have sm : Same (hd B H) (hd (hide D B) H3) := fun a o z => by
      obtain ⟨h1, h2⟩ := hd_some z
      have n : a ≠ D := ne_of_none h2 hD0
      refine hd_of ?_ (s02 a o h2)
      unfold hide
      rw [h1, decide_eq_false n]
      rfl
    dsimp only [tYes]
    rw [if_pos rfl]
    refine he i x (hide D B) H3 hx (fun a z => by unfold hide; rw [z, Bool.or_true]) s02 sm ((hB.same s02).more hd') _ fun y H4 z2 z3 => ?_
    have d4 : H4 D = some (.lst acc) := z2 _ _ hd'
    refine ⟨acc, d4, small5 (by omega), acc ++ [y], by rw [List.length_append, hl]; rfl, same_mut (s'.trans z2) hD, upd_same, ?_⟩
    intro n y' z
    refine mono _ _ _ _ (hide_same D B H4) ?_
    rw [List.getElem?_append] at z
    split at z
    · exact mono _ _ _ _ (Same.hd (show Same H3 H4 from z2)) (iv n y' z)
    · rename_i h
      have e : n = acc.length := by
        have := (List.getElem?_eq_some_iff.mp z).1
        simp at this
        omega
      subst e
      rw [Nat.sub_self] at z
      cases z
      rw [hl]
      exact z3
  · rintro H' ⟨acc, hl, s', hd', iv⟩
    exact k D acc H' hD0 hl iv (s1.trans s') (hB.same (s1.trans s')) hd'
theorem comp_listR {tl : TE} {a : Addr} {xs : List V} (B : Addr → Bool) (hB : Hid B H) (P : Nat → V → Hp → Prop) (mono : ∀ i y G1 G2, Same G1 G2 → P i y G1 → P i y G2) (h0 : ∀ R : VK, (∀ H1, Same H H1 → SqL K H1 a xs → R (.ref a) H1) → tl σ H R) (hz : xs.length ≤ 100000)
    (he : ∀ i x B' H', xs[i]? = some x → (∀ a, B a = true → B' a = true) → Same H H' → Same (hd B H) (hd B' H') → Hid B' H' → ∀ Q' : VK, (∀ y H4, Same H' H4 → P i y (hd B' H4) → Q' y H4) → te ((σ.set j none).set j (some x)) H' Q')
    (k : ∀ D acc H', H D = none → acc.length = xs.length → (∀ (i : Nat) y, acc[i]? = some y → P i y (hd (hide D B) H')) → Same H H' → Hid B H' → H' D = some (.lst acc) → Q (.ref D) H') (hv : vs = [j] := by rfl) : tLc (iList K tl) (gName j) tYes te vs σ H Q :=
  tlcR (hv := hv) (Itl K a) xs (fun H => SqL K H a xs) B hB P mono (fun R r => h0 _ fun H1 s1 q => ⟨a, rfl, ⟨xs, q⟩, r H1 s1 q⟩) walk_list (fun _ _ s q => s.seq q) hz he k
theorem comp_tupR {tl : TE} {a : Addr} {xs : List V} (B : Addr → Bool) (hB : Hid B H) (P : Nat → V → Hp → Prop) (mono : ∀ i y G1 G2, Same G1 G2 → P i y G1 → P i y G2) (ht : SqT K H a xs) (h0 : ∀ R : VK, R (.ref a) H → tl σ H R) (hz : xs.length ≤ 100000)
    (he : ∀ i x B' H', xs[i]? = some x → (∀ a, B a = true → B' a = true) → Same H H' → Same (hd B H) (hd B' H') → Hid B' H' → ∀ Q' : VK, (∀ y H4, Same H' H4 → P i y (hd B' H4) → Q' y H4) → te ((σ.set j none).set j (some x)) H' Q')
    (k : ∀ D acc H', H D = none → acc.length = xs.length → (∀ (i : Nat) y, acc[i]? = some y → P i y (hd (hide D B) H')) → Same H H' → Hid B H' → H' D = some (.lst acc) → Q (.ref D) H') (hv : vs = [j] := by rfl) : tLc (iTup K tl) (gName j) tYes te vs σ H Q :=
  tlcR (hv := hv) (Itt K a) xs (fun H => SqT K H a xs) B hB P mono (fun R r => h0 _ ⟨a, rfl, ⟨xs, ht⟩, r H (Same.refl _) ht⟩) walk_tup (fun _ _ s q => Same.tup s q) hz he k
theorem tha_of : ∀ {acc : List V} {ds : List PyData} {H : Hp}, acc.length = ds.length → (∀ (i : Nat) y, acc[i]? = some y → ∃ d, ds[i]? = some d ∧ Th K H y d) → ThA K H acc ds
  | [], [], _, _, _ => .nil
  | [], _ :: _, _, e, _ => by simp at e
  | _ :: _, [], _, e, _ => by simp at e
  | y :: acc, d :: ds, H, e, h => by
    obtain ⟨d', h1, h2⟩ := h 0 y rfl
    cases h1
    exact .cons h2 (tha_of (by simpa using e) fun i z hz => h (i + 1) z hz)
end
section
variable {X : Cx} {o e : Expr} {es : List Expr} {to : TE} {t : TA} {name : Str} {apos cpos : Pos} {T id : String} {r : V → List V → Hp → VK → Prop}
theorem pe_bmK (K : PySem.W.Frag) (pa : PlainAttrs T) (slot : Slot T name id) (hty : typeOf (.builtin id) = pure (.type "method_descriptor")) (hm : MtR X id r) (ho : PE X o to) (ha : PA X (e :: es) t) (hK : X.K = K := by rfl)
    (hbase : attributeBase o name X.env (eval o X.env) = eval o X.env := by rfl)
    (hfew : ((backTo cpos (starEach (e :: es) X.env)).all (fun x => !x.1) && (backToKw cpos (keywordEach [] X.env)).all (fun x => x.1.isSome)
      && decide ((e :: es).length + ([] : List Keyword).length + (if ([] : List Keyword).isEmpty then 0 else 1) < 30)) = true := by rfl)
    (hline : (apos.endLine == cpos.line) = true := by rfl) (hs : starEach (e :: es) X.env = (false, eval e X.env) :: starEach es X.env := by rfl) (hplain : (backTo cpos (starEach es X.env)).any (·.1) = false := by rfl) :
    PE X (.Call (.Attribute o name apos) (e :: es) [] cpos) (tBM K T r to t) := by
  subst hK
  exact pe_bm pa slot hty hm ho ha hbase hfew hline hs hplain
end
end Z

set_option maxRecDepth 100000
set_option maxHeartbeats 4000000
namespace Z
open PySem PySem.Spec PyProof.Rows L2
/-! ### tuples whose methods may be called: they have no dict -/
def PT (H : Hp) (a : Addr) (xs : List V) : Prop := ∃ o, H a = some (.frz o (.tup xs)) ∧ o.cls = .type "tuple" ∧ o.dict = none
theorem PT.sqT {K : PySem.W.Frag} {H : Hp} {a : Addr} {xs : List V} (h : PT H a xs) : SqT K H a xs := by
  obtain ⟨o, e, _⟩ := h
  exact .inl (.inr ⟨o, e⟩)
theorem PT.same {H H' : Hp} {a : Addr} {xs : List V} (h : PT H a xs) (s : Same H H') : PT H' a xs := by
  obtain ⟨o, e, q⟩ := h
  exact ⟨o, s _ _ e, q⟩
theorem PT.hd {B : Addr → Bool} {H : Hp} {a : Addr} {xs : List V} (h : PT H a xs) (b : B a = false) : PT (Z.hd B H) a xs := by
  obtain ⟨o, e, q⟩ := h
  exact ⟨o, hd_of b e, q⟩
theorem PT.some {H : Hp} {a : Addr} {xs : List V} (h : PT H a xs) : H a ≠ none := by
  obtain ⟨o, e, q⟩ := h
  rw [e]
  exact Option.some_ne_none _
/-- a new tuple at l -/
def newT (H : Hp) (vs : List V) (Q : VK) : Prop := ∀ l u, H l = none → PT (upd H l u) l vs → Q (.ref l) (upd H l u)
section
variable {X : Cx}
/-- tuple(a list) -/
def rTupleP (K : PySem.W.Frag) : List V → Hp → VK → Prop := fun vs H Q => ∃ p ys, vs = [.ref p] ∧ SqL K H p ys ∧ newT H ys Q
theorem call_tupleP (K : PySem.W.Frag) (hK : X.K = K := by rfl) : CallR X (.type "tuple") (rTupleP K) := by
  subst hK
  intro pins s σ H xs us Q I r h
  obtain ⟨p, ys, rfl, hq, q⟩ := h
  obtain ⟨u, rfl, rx⟩ := vals1 r
  cases rx
  obtain ⟨its, r', pl, hz⟩ := I.list hq
  have hlen := r'.length
  refine call_tuple_list pl.isList (fun h' kp => ?_) (by simp only [List.size_toArray] <;> omega)
  have I1 : Inv X pins σ H { s with heap := h' } := I.kept (t' := s.toks) kp
  have I2 : Inv X pins σ (upd H h'.objs.size (.frz { cls := .type "tuple", data := .seq its.toArray } (.tup ys))) { s with heap := h'.push { cls := .type "tuple", data := .seq its.toArray } } :=
    I1.laid (t' := s.toks) (fun b o e => Heap.get?_push_of_some _ e) (Nat.le_refl _) (show ObjOk X.prog X.w _ _ _ (.frz _ (.tup ys)) from ⟨Heap.get?_push_size _ rfl, hz, its, r', IsTup.new _ _⟩)
  exact ⟨.ref h'.objs.size, _, I2, rfl, q _ _ (I1.hok.fresh (Nat.le_refl _)) ⟨_, upd_same, rfl, rfl⟩⟩
end
section
variable {X : Cx} {es : List Expr} {t : TA} {pos : Pos}
def tTupP (t : TA) : TE := fun σ H Q => t σ H fun vs H1 => vs.length ≤ sizeLine ∧ newT H1 vs Q
theorem pe_tupP {x1} (h : PA X es t) : PE X (.Tuple es x1 pos) (tTupP t) := by
  refine ⟨fun pins s σ H Q I hq => ?_⟩
  refine wpAny_Tuple_spliced (thn (h.run pos pins s σ H _ I hq) fun us s1 ⟨xs, H1, I1, r, z, q⟩ => ⟨by rw [← r.length]; exact z, ?_⟩)
  have hf : H1 s1.heap.objs.size = none := I1.hok.fresh (Nat.le_refl _)
  refine ⟨.ref s1.heap.objs.size, upd H1 s1.heap.objs.size (.frz { cls := .type "tuple", data := .seq us.toArray } (.tup xs)), I1.laid (t' := s1.toks) (fun b u e => Heap.get?_push_of_some _ e) (Nat.le_refl _) ?_, rfl, q _ _ hf ⟨_, upd_same, rfl, rfl⟩⟩
  exact ⟨Heap.get?_push_size _ rfl, z, us, r, ⟨_, Heap.get?_push_size _ rfl, rfl, _, rfl⟩⟩
end
section
variable {X : Cx} {o e : Expr} {es : List Expr} {to : TE} {t : TA} {name : Str} {apos cpos : Pos} {id : String} {r : V → List V → Hp → VK → Prop}
def tBMP (r : V → List V → Hp → VK → Prop) (to : TE) (t : TA) : TE := fun σ H Q => to σ H fun x H1 => ∃ p xs, x = .ref p ∧ PT H1 p xs ∧ t σ H1 fun ys H2 => r x ys H2 Q
theorem pe_bmP (pa : PlainAttrs "tuple") (slot : Slot "tuple" name id) (hty : typeOf (.builtin id) = pure (.type "method_descriptor")) (hm : MtR X id r) (ho : PE X o to) (ha : PA X (e :: es) t)
    (hbase : attributeBase o name X.env (eval o X.env) = eval o X.env := by rfl)
    (hfew : ((backTo cpos (starEach (e :: es) X.env)).all (fun x => !x.1) && (backToKw cpos (keywordEach [] X.env)).all (fun x => x.1.isSome)
      && decide ((e :: es).length + ([] : List Keyword).length + (if ([] : List Keyword).isEmpty then 0 else 1) < 30)) = true := by rfl)
    (hline : (apos.endLine == cpos.line) = true := by rfl) (hs : starEach (e :: es) X.env = (false, eval e X.env) :: starEach es X.env := by rfl) (hplain : (backTo cpos (starEach es X.env)).any (·.1) = false := by rfl) :
    PE X (.Call (.Attribute o name apos) (e :: es) [] cpos) (tBMP r to t) := by
  refine ⟨fun pins s σ H Q I h => ?_⟩
  refine wpAny_Call_method_late hbase hfew hline rfl (thn (ho.run pins s σ H _ I h) fun v s1 ⟨x, H1, I1, r1, p, xs, ep, ⟨ob, eo, ec, ed⟩, q1⟩ => ?_)
  subst ep
  cases r1
  have hok := I1.hok p _ eo
  have h1 : s1.TypeIs (.ref p) "tuple" := ⟨ob, hok.1, ec⟩
  have h2 : ∀ a, Value.ref p = .ref a → ∃ ob, s1.heap.get? a = some ob ∧ ob.dict = none := fun a e2 => by cases e2; exact ⟨ob, hok.1, ed⟩
  refine ⟨"tuple", id, pa, slot, hty, h1, h2, ?_⟩
  have hA := ha.run cpos pins s1 σ H1 _ I1 q1
  rw [hs] at hA ⊢
  refine Calls.callWith_builtin (by show (false || (backTo cpos (starEach es X.env)).any (·.1)) = false; rw [hplain] <;> rfl) (Calls.evalArgs_plain ?_)
  exact thn hA fun us s2 ⟨vs, H2, I2, r2, q2⟩ => hm pins s2 σ H2 (.ref p) vs (.ref p) us Q I2 rfl r2 q2
end
end Z

set_option maxRecDepth 100000
set_option maxHeartbeats 4000000
namespace Z
open PySem PySem.Spec PyProof.Rows L2
/-! ### a comprehension with any target, its answers told by a property -/
section
variable {K : PySem.W.Frag} {wi : TI} {xs : List V} {G : Hp → Prop} {vs : List Nat} {σ : L2.St} {te : TE} {H : Hp} {Q : VK}
theorem tlcRG {g : TG} (J : It) (xs : List V) (G : Hp → Prop) (B : Addr → Bool) (hB : Hid B H) (P : Nat → V → Hp → Prop) (mono : ∀ i y G1 G2, Same G1 G2 → P i y G1 → P i y G2)
    (hw : ∀ R : It → Hp → Prop, (∀ H1, Same H H1 → G H1 → R J H1) → wi σ H R) (w : Walk J xs.length G (YAt xs)) (hG : ∀ H1 H2, Same H1 H2 → G H1 → G H2) (hz : xs.length ≤ 100000)
    (he : ∀ i x B' H', xs[i]? = some x → (∀ a, B a = true → B' a = true) → Same H H' → Same (hd B H) (hd B' H') → Hid B' H' → ∀ (Q' : VK) (R : Hp → Prop), (∀ y H4, Same H' H4 → P i y (hd B' H4) → Q' y H4) → g x (wipe σ vs) H' fun σ2 H2 => wipe σ2 vs = wipe σ vs ∧ tYes σ2 H2 fun b H3 => if b = true then te σ2 H3 Q' else R H3)
    (k : ∀ D acc H', H D = none → acc.length = xs.length → (∀ (i : Nat) y, acc[i]? = some y → P i y (hd (hide D B) H')) → Same H H' → Hid B H' → H' D = some (.lst acc) → Q (.ref D) H') : tLc wi g tYes te vs σ H Q := by
  refine hw _ fun H1 s1 g1 => ?_
  intro D hD
  have hD0 : H D = none := s1.free hD
  have bD : B D = false := hB.off hD0
  refine lc_it w (fun i H' => ∃ acc, acc.length = i ∧ Same H1 H' ∧ H' D = some (.lst acc) ∧ ∀ (n : Nat) y, acc[n]? = some y → P n y (hd (hide D B) H')) ⟨[], rfl, same_new hD, upd_same, fun n y z => by simp at z⟩ ?_ ?_ ?_
  · rintro i H' _ ⟨acc, _, s', _, _⟩
    exact hG H1 H' s' g1
  · rintro i x H2 H3 hi ⟨acc, hl, s', hd', iv⟩ ⟨rfl, hx⟩
    have s02 := s1.trans s'
    have sm : Same (hd B H) (hd (hide D B) H3) := fun a o z => by
      obtain ⟨h1, h2⟩ := hd_some z
      have n : a ≠ D := ne_of_none h2 hD0
      refine hd_of ?_ (s02 a o h2)
      unfold hide
      rw [h1, decide_eq_false n]
      rfl
    refine he i x (hide D B) H3 hx (fun a z => by unfold hide; rw [z, Bool.or_true]) s02 sm ((hB.same s02).more hd') _ _ fun y H4 z2 z3 => ?_
    have d4 : H4 D = some (.lst acc) := z2 _ _ hd'
    refine ⟨acc, d4, small5 (by omega), acc ++ [y], by rw [List.length_append, hl]; rfl, same_mut (s'.trans z2) hD, upd_same, ?_⟩
    intro n y' z
    refine mono _ _ _ _ (hide_same D B H4) ?_
    rw [List.getElem?_append] at z
    split at z
    · exact mono _ _ _ _ (Same.hd (show Same H3 H4 from z2)) (iv n y' z)
    · rename_i h
      have e : n = acc.length := by
        have := (List.getElem?_eq_some_iff.mp z).1
        simp at this
        omega
      subst e
      rw [Nat.sub_self] at z
      cases z
      rw [hl]
      exact z3
  · rintro H' ⟨acc, hl, s', hd', iv⟩
    exact k D acc H' hD0 hl iv (s1.trans s') (hB.same (s1.trans s')) hd'
theorem comp_listRG {g : TG} {tl : TE} {a : Addr} {xs : List V} (B : Addr → Bool) (hB : Hid B H) (P : Nat → V → Hp → Prop) (mono : ∀ i y G1 G2, Same G1 G2 → P i y G1 → P i y G2) (h0 : ∀ R : VK, (∀ H1, Same H H1 → SqL K H1 a xs → R (.ref a) H1) → tl σ H R) (hz : xs.length ≤ 100000)
    (he : ∀ i x B' H', xs[i]? = some x → (∀ a, B a = true → B' a = true) → Same H H' → Same (hd B H) (hd B' H') → Hid B' H' → ∀ (Q' : VK) (R : Hp → Prop), (∀ y H4, Same H' H4 → P i y (hd B' H4) → Q' y H4) → g x (wipe σ vs) H' fun σ2 H2 => wipe σ2 vs = wipe σ vs ∧ tYes σ2 H2 fun b H3 => if b = true then te σ2 H3 Q' else R H3)
    (k : ∀ D acc H', H D = none → acc.length = xs.length → (∀ (i : Nat) y, acc[i]? = some y → P i y (hd (hide D B) H')) → Same H H' → Hid B H' → H' D = some (.lst acc) → Q (.ref D) H') : tLc (iList K tl) g tYes te vs σ H Q :=
  tlcRG (Itl K a) xs (fun H => SqL K H a xs) B hB P mono (fun R r => h0 _ fun H1 s1 q => ⟨a, rfl, ⟨xs, q⟩, r H1 s1 q⟩) walk_list (fun _ _ s q => s.seq q) hz he k
end
theorem comp_tupE {K : PySem.W.Frag} {ω : Bg} {ta te : TE} {vs : List Nat} {j : Nat} {σ : L2.St} {H : Hp} {Q : VK} {a : Addr} (xs : List V) (B : Addr → Bool) (wd : Wd K B ω H) (P : Nat → V → Hp → Prop) (mono : ∀ i y G1 G2, Same G1 G2 → P i y G1 → P i y G2) (hz : xs.length ≤ 100000)
    (ht : SqT K (hd B H) a xs) (h0 : ∀ R : VK, R (.ref a) H → ta σ H R)
    (hs : ∀ i x B' H', xs[i]? = some x → (∀ a, B a = true → B' a = true) → Same (hd B H) (hd B' H') → Wd K B' ω H' → ∀ Q' : VK, (∀ y H4, Bag K H4 ω → Go ω.b H' H4 → P i y (hd B' H4) → Q' y H4) → te ((σ.set j none).set j (some x)) H' Q')
    (k : ∀ D acc H', H D = none → acc.length = xs.length → (∀ (i : Nat) y, acc[i]? = some y → P i y (hd (hide D B) H')) → Wd K B ω H' → Go ω.b H H' → H' D = some (.lst acc) → Q (.ref D) H') (hv : vs = [j] := by rfl) : tLc (iTup K ta) (gName j) tYes te vs σ H Q := by
  unfold tLc iTup
  refine h0 _ ⟨a, rfl, ⟨_, Same.tup (hd_same _ _) ht⟩, ?_⟩
  exact lcE (G := fun H' => SqT K H' a xs) (hv := hv) walk_tup B wd P mono (fun H' s' => Same.tup (hd_same _ _) (Same.tup s' ht)) hz hs k
end Z

set_option maxRecDepth 100000
set_option maxHeartbeats 4000000
namespace Z
open PySem PySem.Spec PySem.Builtin PySem.Builtin.Str PyProof.Rows L2
/-! ### zip(a text, a tuple) -/
/-- n new pairs -/
def JP (n : Nat) (Y : Nat → V → V → Prop) (G : Hp → Prop) : It :=
  ⟨fun i H => G H ∧ i < n, fun i H v H' => ∃ T x y, v = .ref T ∧ H T = none ∧ H' = upd H T (.tup [x, y]) ∧ Y i x y, fun i H => G H ∧ n ≤ i⟩
theorem walk_P {n : Nat} {Y : Nat → V → V → Prop} {G : Hp → Prop} : Walk (JP n Y G) n G (fun i H v H' => ∃ T x y, v = .ref T ∧ H T = none ∧ H' = upd H T (.tup [x, y]) ∧ Y i x y) :=
  ⟨fun _ _ hi g => ⟨g, hi⟩, fun _ g => ⟨g, Nat.le_refl _⟩, fun _ _ _ _ _ _ y => y⟩
theorem turn_zipG {P : Program} {w : World} {K : PySem.W.Frag} {elts : List Expr} {kk : Nat} {tpos : Pos} {t1 t2 : Nat → Heap → Prop} {n : Nat} {Y : Nat → V → V → Prop} {G : Hp → Prop} {z TI TO i1 i2 : Addr}
    (hk1 : ∀ i h h', t1 i h → (∀ o, h.get? i1 = some o → h'.get? i1 = some o) → t1 i h') (hk2 : ∀ i h h', t2 i h → (∀ o, h.get? i2 = some o → h'.get? i2 = some o) → t2 i h')
    (ho1 : ∀ i h, t1 i h → ∃ o, h.get? i1 = some o ∧ ∀ v, o.data ≠ .cell v) (ho2 : ∀ i h, t2 i h → ∃ o, h.get? i2 = some o ∧ ∀ v, o.data ≠ .cell v)
    (hD : ∀ (X : Cx) (pins : List (Addr × Obj)) (σ : L2.St) (H : Hp) (s : Shared), X.prog = P → X.w = w → X.K = K → X.calm = true → Inv X pins σ H s → G H → ∃ (fp1 fp2 : List Addr) (P1 P2 : Nat → Value → Prop) (St1 St2 : Nat → Heap → Prop),
      ZipSep2 z TI TO i1 i2 fp1 fp2 ∧ Draws P w X.A.in1 i1 fp1 n P1 St1 ∧ Draws P w X.A.in1 i2 fp2 n P2 St2 ∧ (∀ i, t1 i s.heap → St1 i s.heap) ∧ (∀ i, t2 i s.heap → St2 i s.heap) ∧ (∀ i h, St1 i h → t1 i h) ∧ (∀ i h, St2 i h → t2 i h) ∧ ∀ i u v, P1 i u → P2 i v → ∃ x y, RelV x u ∧ RelV y v ∧ Y i x y) :
    Turn P w K (.Tuple elts kk tpos) (JP n Y G) [z, TI, TO, i1, i2] z (fun i h => IsZip h z TI TO .none ∧ IsTupOf2 h TI (.ref i1) (.ref i2) ∧ (∃ x y, IsTupOf2 h TO x y) ∧ t1 i h ∧ t2 i h ∧ i ≤ n) where
  mem := by simp
  obj := fun i h st c hc => by
    obtain ⟨hz, hTI, ⟨x, y, hTO⟩, h1, h2, _⟩ := st
    have e' : c = z ∨ c = TI ∨ c = TO ∨ c = i1 ∨ c = i2 := by simpa using hc
    rcases e' with q | q | q | q | q
    · rw [q]; exact ⟨_, hz, fun v q => nomatch q⟩
    · rw [q]; exact ⟨_, hTI, fun v q => nomatch q⟩
    · rw [q]; exact ⟨_, hTO, fun v q => nomatch q⟩
    · rw [q]; exact ho1 i h h1
    · rw [q]; exact ho2 i h h2
  keep := fun i h h' st k => by
    obtain ⟨hz, hTI, ⟨x, y, hTO⟩, h1, h2, hle⟩ := st
    exact ⟨k z (by simp) _ hz, k TI (by simp) _ hTI, ⟨x, y, k TO (by simp) _ hTO⟩, hk1 i h h' h1 fun o q => k i1 (by simp) o q, hk2 i h h' h2 fun o q => k i2 (by simp) o q, hle⟩
  item := by
    intro X hP hw hK hc i pins s σ H E I hf st hg
    obtain ⟨hz, hTI, ⟨x0, y0, hTO⟩, h1, h2, _⟩ := st
    obtain ⟨hG, hlt⟩ := hg
    obtain ⟨fp1, fp2, P1, P2, St1, St2, S, D1, D2, d1, d2, d3, d4, d5⟩ := hD X pins σ H s hP hw hK hc I hG
    subst hP hw hK
    have hzl : z < s.heap.objs.size := Heap.lt_size hz
    have hl1 : i1 < s.heap.objs.size := by obtain ⟨o, q, _⟩ := ho1 i _ h1; exact Heap.lt_size q
    have hl2 : i2 < s.heap.objs.size := by obtain ⟨o, q, _⟩ := ho2 i _ h2; exact Heap.lt_size q
    refine wpAny_pyNext_zipD2_item S D1 D2 hz hTI hTO (d1 i h1) (d2 i h2) hlt hlt fun u u2 h' tk p1 p2 z' TO' st1' st2' hT hsz hk => ?_
    obtain ⟨x, y, ru, ru2, hY⟩ := d5 i u u2 p1 p2
    refine ⟨_, rfl, wpAny_letOwnedTupleGo_zip (s := { s with heap := h', toks := tk }) z' fun h'' z'' sb => ?_⟩
    have hT2 : h''.get? s.heap.objs.size = some { cls := .type "tuple", data := .seq #[u, u2] } := (sb.2 _ (Nat.ne_of_gt hzl)).trans hT
    have new : ObjOk X.prog X.w (upd H s.heap.objs.size (.tup [x, y])) h'' s.heap.objs.size (.tup [x, y]) :=
      ⟨by show 2 ≤ sizeLine; decide, [u, u2], .cons ru (.cons ru2 .nil), ⟨_, hT2, rfl, _, rfl⟩⟩
    have I1 : Inv X pins σ (upd H s.heap.objs.size (.tup [x, y])) { s with heap := h'', toks := tk } :=
      I.turnedNew (t' := tk) (ch := [z, TI, TO, i1, i2]) (fun c o hb q => (sb.2 c (fun q' => hb (by simp [q']))).trans (hk c o (fun q' => hb (by simp [q'])) (fun q' => hb (by simp [q'])) (fun q' => hb (by simp [q'])) (fun q' => hb (by simp [q'])) q)) hf (Nat.le_refl _) new
    refine ⟨.ref s.heap.objs.size, _, I1, rfl, ⟨_, x, y, rfl, I.hok.fresh (Nat.le_refl _), rfl, hY⟩, ⟨z'', ?_, ⟨u, u2, ?_⟩, ?_, ?_, hlt⟩, fun c hcm => ?_⟩
    · exact (sb.2 _ S.TIz).trans (hk _ _ S.TIz S.TITO S.TIi1 S.TIi2 hTI)
    · exact (sb.2 _ S.TOz).trans TO'
    · exact hk1 _ _ _ (d3 _ _ st1') fun o q => (sb.2 _ (Ne.symm S.zi1)).trans q
    · exact hk2 _ _ _ (d4 _ _ st2') fun o q => (sb.2 _ (Ne.symm S.zi2)).trans q
    · have hlt : c < s.heap.objs.size := by
        have e' : c = z ∨ c = TI ∨ c = TO ∨ c = i1 ∨ c = i2 := by simpa using hcm
        rcases e' with q | q | q | q | q
        · rw [q]; exact hzl
        · rw [q]; exact Heap.lt_size hTI
        · rw [q]; exact Heap.lt_size hTO
        · rw [q]; exact hl1
        · rw [q]; exact hl2
      rw [upd_ne (Nat.ne_of_lt hlt)]
      exact (hf c hcm).1
  done := by
    intro X hP hw hK hc i pins s σ H E I hf st hg
    obtain ⟨hz, hTI, ⟨x0, y0, hTO⟩, h1, h2, hle⟩ := st
    obtain ⟨hG, hge⟩ := hg
    obtain ⟨fp1, fp2, P1, P2, St1, St2, S, D1, D2, d1, d2, d3, d4, d5⟩ := hD X pins σ H s hP hw hK hc I hG
    subst hP hw hK
    have e1 : i = n := Nat.le_antisymm hle hge
    exact wpAny_pyNext_zipD2_end S D1 D2 hz hTI hTO (d1 i h1) (d2 i h2) hle hle (.inl e1) fun h' tk hk => ⟨rfl, I.turnedL (t' := tk) (ch := [z, TI, TO, i1, i2]) (fun c o hb q =>
      hk c o (fun q' => hb (by simp [q'])) (fun q' => hb (by simp [q'])) (fun q' => hb (by simp [q'])) (fun q' => hb (by simp [q'])) q) hf⟩
  self := fun A i s Q E st h => wpAny_pyIter_zip st.1 h
/-! its making -/
abbrev zpS1 (h : Heap) (x : Str) (t : Tok) : Heap := h.push { cls := .type (strIterType x), data := .fields #[.str x t, .int 0 0] }
abbrev zpS2 (h : Heap) (x : Str) (t : Tok) (l : Addr) : Heap := (zpS1 h x t).push { cls := .type "tuple_iterator", data := .fields #[.ref l, .int 0 0] }
abbrev zpS3 (h : Heap) (x : Str) (t : Tok) (l : Addr) : Heap := (zpS2 h x t l).push { cls := .type "tuple", data := .seq #[.ref h.objs.size, .ref (zpS1 h x t).objs.size] }
abbrev zpS4 (h : Heap) (x : Str) (t : Tok) (l : Addr) : Heap := (zpS3 h x t l).push { cls := .type "tuple", data := .seq #[.none, .none] }
abbrev zpS5 (h : Heap) (x : Str) (t : Tok) (l : Addr) : Heap := (zpS4 h x t l).push { cls := .type "zip", data := .fields #[.none, .bool false, .bool false, .ref (zpS2 h x t l).objs.size, .ref (zpS3 h x t l).objs.size] }
theorem meets_zipST (x : Str) (t : Tok) (l : Addr) (ys : Array Value) :
    Meets (Builtin.«zip.__new__» ⟨[.type "zip", .str x t, .ref l], []⟩) (fun _ R s => s.heap.IsTuple l ys ∧ R (.ok (.ret (.ref (zpS4 s.heap x t l).objs.size))) { s with heap := zpS5 s.heap x t l }) :=
  .of_wp fun prog w A R s h => by
    obtain ⟨hp, g, d, tk, os⟩ := s; obtain ⟨hl, h⟩ := h
    have hsub := sub_zip
    have q1 : ∀ {A' : Around} {E : Value → Shared → Prop} {Q : Value → Shared → Prop}, Q (.ref hp.objs.size) ⟨zpS1 hp x t, g, d, tk, os⟩ → wpAny (model prog w) A' (pyIter (.str x t)) Q E ⟨hp, g, d, tk, os⟩ := fun q => (begins_text x t).iter prog w _ _ ⟨hp, g, d, tk, os⟩ _ trivial q
    have hL2 : Heap.IsTuple (Shared.heap ⟨zpS1 hp x t, g, d, tk, os⟩) l ys := Heap.IsTuple.push hl _
    wp_walk using q1, wpAny_pyIter_tuple hL2
    exact ⟨_, rfl, h⟩
section
variable {prog : Program} {w : World} {A : Around} {E : Value → Shared → Prop} {s : Shared}
theorem call_zipST {x : Str} {t : Tok} {l : Addr} {ys : Array Value} {Q : Value → Shared → Prop} (hl : s.heap.IsTuple l ys)
    (h : ∀ h', IsZip h' (s.heap.objs.size + 4) (s.heap.objs.size + 2) (s.heap.objs.size + 3) .none → IsTupOf2 h' (s.heap.objs.size + 2) (.ref s.heap.objs.size) (.ref (s.heap.objs.size + 1)) →
      IsTupOf2 h' (s.heap.objs.size + 3) .none .none → h'.IsStrIter s.heap.objs.size (strIterType x) x t 0 → h'.IsTupleIter (s.heap.objs.size + 1) l 0 →
      (∀ c o, s.heap.get? c = some o → h'.get? c = some o) → Q (.ref (s.heap.objs.size + 4)) { s with heap := h' }) :
    wpAny (model prog w) A (call (.type "zip") [.str x t, .ref l]) Q E s := by
  refine callType_new F.called_zip (by decide) (F.typeCall_zip_2 _ _) (F.newCall_zip_2 _ _) (fun obj => F.args_object_init_3 obj _ _) F.entry_zip_new
    (meets_zipST x t l ys) ⟨hl, ?_⟩
  have z1 : (zpS1 s.heap x t).objs.size = s.heap.objs.size + 1 := Heap.size_push ..
  have z2 : (zpS2 s.heap x t l).objs.size = s.heap.objs.size + 2 := by rw [Heap.size_push, z1]
  have z3 : (zpS3 s.heap x t l).objs.size = s.heap.objs.size + 3 := by rw [Heap.size_push, z2]
  have z4 : (zpS4 s.heap x t l).objs.size = s.heap.objs.size + 4 := by rw [Heap.size_push, z3]
  have g5 : (zpS5 s.heap x t l).get? (zpS4 s.heap x t l).objs.size = some _ := Heap.get?_push_size _ rfl
  have g4 : (zpS5 s.heap x t l).get? (zpS3 s.heap x t l).objs.size = some _ := Heap.get?_push_of_some _ (Heap.get?_push_size _ rfl)
  have g3 : (zpS5 s.heap x t l).get? (zpS2 s.heap x t l).objs.size = some _ := Heap.get?_push_of_some _ (Heap.get?_push_of_some _ (Heap.get?_push_size _ rfl))
  have g2 : (zpS5 s.heap x t l).get? (zpS1 s.heap x t).objs.size = some _ := Heap.get?_push_of_some _ (Heap.get?_push_of_some _ (Heap.get?_push_of_some _ (Heap.get?_push_size _ rfl)))
  have g1 : (zpS5 s.heap x t l).get? s.heap.objs.size = some _ := Heap.get?_push_of_some _ (Heap.get?_push_of_some _ (Heap.get?_push_of_some _ (Heap.get?_push_of_some _ (Heap.get?_push_size _ rfl))))
  show _ ∧ _
  rw [z2, z3, z4] at g5
  rw [z1, z2] at g3
  rw [z3] at g4
  rw [z1] at g2
  rw [z4]
  exact ⟨⟨_, g5, rfl⟩, h _ g5 g3 g4 ⟨_, g1, rfl, rfl⟩ ⟨_, g2, rfl, rfl⟩ fun c o x =>
    Heap.get?_push_of_some _ (Heap.get?_push_of_some _ (Heap.get?_push_of_some _ (Heap.get?_push_of_some _ (Heap.get?_push_of_some _ x))))⟩
end
theorem adne {a b : Nat} (h : a ≠ b) : @Ne Addr a b := h
theorem zsep (n b : Nat) (hb : b < n) : ZipSep2 (n + 4) (n + 2) (n + 3) n (n + 1) [n] [n + 1, b] := by
  have m1 : ∀ {a c : Nat}, a ≠ c → ¬ (a : Addr) ∈ ([c] : List Addr) := fun h hm => h (List.mem_singleton.mp hm)
  have m2 : ∀ {a c d : Nat}, a ≠ c → a ≠ d → ¬ (a : Addr) ∈ ([c, d] : List Addr) := fun h h' hm => (List.mem_cons.mp hm).elim h fun q => h' (List.mem_singleton.mp q)
  exact ⟨adne (by omega), adne (by omega), adne (by omega), adne (by omega), List.mem_singleton.mpr rfl, m1 (by omega), m1 (by omega), adne (by omega), List.mem_cons_self, m2 (by omega) (by omega), m2 (by omega) (by omega), m2 (by omega) (by omega), m1 (by omega)⟩
/-- the pairs of a text's signs and a tuple's items -/
def iZipST (K : PySem.W.Frag) (ta : TA) : TI := fun σ H R => ta σ H fun vs H1 => ∃ (z : Str) (b : Addr) (ys : List V), vs = [.str z, .ref b] ∧ SqT K H1 b ys ∧ z.length = ys.length ∧ R (JP ys.length (fun i x y => (signsV z)[i]? = some x ∧ ys[i]? = some y) fun H => SqT K H b ys) H1
theorem pi_zipST {X : Cx} {e e2 : Expr} {ta : TA} {p pos tpos : Pos} {elts : List Expr} {kk : Nat} (hg : Gl X "zip") (hm : X.mg "zip" = none) (ha : PA X [e, e2] ta)
    (hs : starEach [e, e2] X.env = (false, eval e X.env) :: starEach [e2] X.env := by rfl) (hpl : (backTo pos (starEach [e2] X.env)).any (·.1) = false := by rfl) :
    PI X (.Tuple elts kk tpos) (.Call (.Name "zip" p) [e, e2] [] pos) (iZipST X.K ta) := by
  refine ⟨fun pins s σ H R I h => ?_⟩
  refine Call_ (ld_blt I hg hm PyProof.Rows.boot_zip (PyProof.Rows.callWith_type1 (thn (ha.run pos pins s σ H _ I h) fun us s1 ⟨vs, H1, I1, r1, q1⟩ => ?_) hs hpl))
  obtain ⟨z, b, ys, ex, hq, hl, q⟩ := q1
  subst ex
  cases r1 with
  | cons r rr =>
    cases rr with
    | cons r' rr =>
      cases rr
      obtain ⟨t, rfl⟩ := r
      cases r'
      have fresh5 : ∀ c, c ∈ [s1.heap.objs.size + 4, s1.heap.objs.size + 2, s1.heap.objs.size + 3, s1.heap.objs.size, s1.heap.objs.size + 1] → FpOk X pins H1 c := fun c hcm => by
        have e' : c = s1.heap.objs.size + 4 ∨ c = s1.heap.objs.size + 2 ∨ c = s1.heap.objs.size + 3 ∨ c = s1.heap.objs.size ∨ c = s1.heap.objs.size + 1 := by simpa using hcm
        have hle : s1.heap.objs.size ≤ c := by
          rcases e' with z | z | z | z | z
          · rw [z]; exact Nat.le_add_right _ _
          · rw [z]; exact Nat.le_add_right _ _
          · rw [z]; exact Nat.le_add_right _ _
          · rw [z]; exact Nat.le_refl _
          · rw [z]; exact Nat.le_add_right _ _
        exact I1.fpOk hle (I1.hok.fresh hle)
      obtain ⟨its, rv, p1, _⟩ := I1.tuple hq
      have hbl : b < s1.heap.objs.size := by obtain ⟨_, e, _⟩ := p1; exact Heap.lt_size e
      refine call_zipST (show s1.heap.IsTuple b its.toArray from p1) fun h' hz hTI hTO h1 h2 hk => wpAny_pyIter_zip hz ?_
      have I2 : Inv X pins σ H1 { s1 with heap := h' } := I1.kept (t' := s1.toks) hk
      refine ⟨s1.heap.objs.size + 4, [s1.heap.objs.size + 4, s1.heap.objs.size + 2, s1.heap.objs.size + 3, s1.heap.objs.size, s1.heap.objs.size + 1], _, _, H1, rfl, I2, turn_zipG (t1 := fun i h => h.IsStrIter s1.heap.objs.size (strIterType z) z t i) (t2 := fun i h => h.IsTupleIter (s1.heap.objs.size + 1) b i) ?_ ?_ ?_ ?_ ?_, ⟨hz, hTI, ⟨_, _, hTO⟩, h1, h2, Nat.zero_le _⟩, fresh5, q⟩
      · exact fun i h h' ⟨o, a, b⟩ k => ⟨o, k o a, b⟩
      · exact fun i h h' t k => t.at k
      · exact fun i h ⟨o, a, b, d⟩ => ⟨o, a, fun v q => by rw [d] at q; cases q⟩
      · exact fun i h ⟨o, a, b, d⟩ => ⟨o, a, fun v q => by rw [d] at q; cases q⟩
      · intro X' pins' σ' H' s' _ _ hK hc I' hG
        rw [← hK] at hG
        obtain ⟨its', rv', p2, _⟩ := I'.tuple hG
        have hl' := rv'.length
        have D1 := Draws.text (prog := X.prog) (w := X.w) (A := X'.A.in1) (I'.ok.hd hc) s1.heap.objs.size z t
        have e0 : z.cps.size = ys.length := hl
        rw [e0] at D1
        have D2 := Draws.tuple (prog := X.prog) (w := X.w) (A := X'.A.in1) (I'.ok.hd hc) (s1.heap.objs.size + 1) b (Nat.ne_of_lt (Nat.lt_succ_of_lt hbl)) its'.toArray
        have e1 : its'.toArray.size = ys.length := by rw [List.size_toArray, hl']
        rw [e1] at D2
        refine ⟨_, _, _, _, _, _, ?_, D1, D2, fun i h => h, fun i h => ⟨h, p2⟩, fun i h x => x, fun i h x => x.1, ?_⟩
        · exact zsep s1.heap.objs.size b hbl
        · rintro i u v ⟨c, tk, hcc, rfl⟩ hv
          have hv' : its'[i]? = some v := by simpa using hv
          have hi : i < its'.length := (List.getElem?_eq_some_iff.mp hv').1
          have hx : ys[i]? = some ys[i] := List.getElem?_eq_getElem (by omega)
          obtain ⟨u2, h2, r2⟩ := rv'.get hx
          rw [hv'] at h2
          cases h2
          refine ⟨.str ⟨#[c]⟩, _, ⟨_, rfl⟩, r2, ?_, hx⟩
          unfold signsV
          rw [List.getElem?_map, Array.getElem?_toList, hcc]
          rfl
theorem pi_zipSTK {X : Cx} {e e2 : Expr} {ta : TA} {p pos tpos : Pos} {elts : List Expr} {kk : Nat} (K : PySem.W.Frag) (hg : Gl X "zip") (hm : X.mg "zip" = none) (ha : PA X [e, e2] ta) (hK : X.K = K := by rfl)
    (hs : starEach [e, e2] X.env = (false, eval e X.env) :: starEach [e2] X.env := by rfl) (hpl : (backTo pos (starEach [e2] X.env)).any (·.1) = false := by rfl) :
    PI X (.Tuple elts kk tpos) (.Call (.Name "zip" p) [e, e2] [] pos) (iZipST K ta) := by
  subst hK
  exact pi_zipST hg hm ha hs hpl
/-- a comprehension over such pairs, its answers told as a list -/
theorem comp_zip {K : PySem.W.Frag} {ta : TA} {te : TE} {g : TG} {vs : List Nat} {σ : L2.St} {H : Hp} {Q : VK} {z : Str} {b : Addr} {ys : List V} (bs : List V) (hq : SqT K H b ys) (hl : z.length = ys.length) (hz : ys.length ≤ 100000) (h0 : ∀ R : List V → Hp → Prop, R [.str z, .ref b] H → ta σ H R) (hbl : bs.length = ys.length)
    (he : ∀ (i c : Nat) (y w : V) (T : Addr) (H' : Hp), z.cps.toList[i]? = some c → ys[i]? = some y → bs[i]? = some w → Same H H' → H' T = some (.tup [.str (one c), y]) → ∀ (Q' : VK) (R : Hp → Prop), (∀ H'', Same H' H'' → Q' w H'') → g (.ref T) (wipe σ vs) H' fun σ2 H2 => wipe σ2 vs = wipe σ vs ∧ tYes σ2 H2 fun b H3 => if b = true then te σ2 H3 Q' else R H3)
    (k : ∀ D H', H D = none → Same H H' → H' D = some (.lst bs) → Q (.ref D) H') : tLc (iZipST K ta) g tYes te vs σ H Q := by
  refine h0 _ ⟨z, b, ys, rfl, hq, hl, ?_⟩
  intro D hD
  refine lc_it walk_P (fun i H' => Same H H' ∧ H' D = some (.lst (bs.take i))) ⟨same_new hD, upd_same⟩ (fun i H' _ p => Same.tup p.1 hq) ?_ ?_
  · rintro i x H2 H3 hi ⟨s2, d2⟩ ⟨T, x', y, rfl, hT, rfl, hx, hy⟩
    have hb : i < bs.length := by omega
    have sT := same_new (o := .tup [x', y]) hT
    obtain ⟨c, hc, rfl⟩ : ∃ c, z.cps.toList[i]? = some c ∧ x' = V.str (one c) := by
      unfold signsV at hx
      rw [List.getElem?_map] at hx
      cases e : z.cps.toList[i]? with
      | none => rw [e] at hx; cases hx
      | some c => rw [e] at hx; cases hx; exact ⟨c, rfl, rfl⟩
    refine he i c y bs[i] T _ hc hy (List.getElem?_eq_getElem hb) (Same.trans s2 sT) upd_same _ _ fun H4 s4 => ?_
    refine ⟨_, s4 _ _ (sT _ _ d2), ?_, same_mut ((Same.trans s2 sT).trans s4) hD, ?_⟩
    · rw [List.length_take]
      exact small5 (by omega)
    · rw [upd_same, List.take_add_one, List.getElem?_eq_getElem hb]
      rfl
  · rintro H' ⟨s2, d2⟩
    rw [← hbl, List.take_length] at d2
    exact k D H' hD s2 d2
end Z

namespace Lw
open PySem PySem.Spec PyProof.Rows L2 Z
local macro_rules | `(tactic| walk_at "zd") => `(tactic| try dsimp only [tSeq, tIfS, L2.tOr, L2.tAnd, tNot, zTest, tOp, tUn, zVar, tC, tAsg, tRet, tNext, tCB, tCall, tCallR, tBM, tBM0, tPar, tCons, tNil, gName, gSub, tAugS, tDrop, tLst, tTup, tTupP, tBMP, tM1, L2.tSl, tPart, tNoPart, zChain, zAndV, zOrV, zNotV, tIf, List.getElem?_cons_zero, List.getElem?_cons_succ, List.set_cons_zero, List.set_cons_succ, onV, onB, onI, onR, onS, gIxZ, ipZ, rSetZ, rSubZ, rModZ, rDivZ, rNegZ, rPowZ, rAbsZ, rIntZ, id, List.nil_append, List.cons_append, List.append_nil])
def top (i : Nat) : Stmt := PySem.Challenge.pw_cellscript_k23_blocks_by_rows.main.body.getD i (.Pass ⟨0, 0, 0, 0⟩)
abbrev s_wall : Stmt := top 0
abbrev s_Wrong_init : Stmt := inClass (top 3) 0
abbrev s_BadRow_init : Stmt := inClass (top 4) 0
abbrev s_is_whole : Stmt := top 9
abbrev s_is_from_to : Stmt := top 10
abbrev s_is_made_of : Stmt := top 11
abbrev s_is_text_of : Stmt := top 12
abbrev s_is_signs : Stmt := top 13
abbrev s_is_place : Stmt := top 14
abbrev s_refuse_wrong : Stmt := top 15
abbrev s_is_sort : Stmt := top 22
abbrev s_places_of : Stmt := top 23
abbrev s_is_near : Stmt := top 24
abbrev s_is_signs_of : Stmt := top 25
abbrev s_is_at : Stmt := top 26
abbrev s_is_count : Stmt := top 27
abbrev s_is_test : Stmt := top 28
abbrev s_is_cell_row : Stmt := top 29
abbrev s_is_block_row : Stmt := top 30
abbrev s_Rule_init : Stmt := inClass (top 31) 0
abbrev s_Rule_is_row : Stmt := inClass (top 31) 1
abbrev s_Rule_kind : Stmt := inClass (top 31) 2
abbrev s_Rule_many : Stmt := inClass (top 31) 3
abbrev s_Rule_near : Stmt := inClass (top 31) 4
abbrev s_Rule_rows : Stmt := inClass (top 31) 5
abbrev s_Rule_signs : Stmt := inClass (top 31) 6
abbrev s_Rule_becomes : Stmt := inClass (top 31) 7
abbrev s_Rule_all_hold : Stmt := inClass (top 31) 8
abbrev s_Rule_holds : Stmt := inClass (top 31) 9
abbrev s_Rule_block : Stmt := inClass (top 31) 10
abbrev s_Rule_keeps_ground : Stmt := inClass (top 31) 11
abbrev s_Rule_turned : Stmt := inClass (top 31) 12
abbrev s_Rule_eq : Stmt := inClass (top 31) 13
abbrev s_Rule_len : Stmt := inClass (top 31) 14
abbrev s_Rule_repr : Stmt := inClass (top 31) 15
abbrev s_law_bag : Stmt := top 33
abbrev s_law_take : Stmt := top 34
abbrev s_law_signs : Stmt := top 35
abbrev s_law_some : Stmt := top 36
abbrev s_law_block_row : Stmt := top 37
abbrev s_law_block : Stmt := top 38
abbrev s_law_blocks : Stmt := top 39
abbrev s_law : Stmt := top 40
theorem sc_wall : FnScope ["k"] ["k"] (defScope s_wall) := ⟨rfl, rfl, rfl, by decide +kernel, rfl, by decide +kernel, by decide +kernel⟩
theorem sc_Wrong_init : FnScope ["self", "at"] ["self", "at"] (defScope s_Wrong_init) := ⟨rfl, rfl, rfl, by decide +kernel, rfl, by decide +kernel, by decide +kernel⟩
theorem sc_BadRow_init : FnScope ["self", "at"] ["self", "at"] (defScope s_BadRow_init) := ⟨rfl, rfl, rfl, by decide +kernel, rfl, by decide +kernel, by decide +kernel⟩
theorem sc_is_whole : FnScope ["thing"] ["thing"] (defScope s_is_whole) := ⟨rfl, rfl, rfl, by decide +kernel, rfl, by decide +kernel, by decide +kernel⟩
theorem sc_is_from_to : FnScope ["thing", "low", "high"] ["thing", "low", "high"] (defScope s_is_from_to) := ⟨rfl, rfl, rfl, by decide +kernel, rfl, by decide +kernel, by decide +kernel⟩
theorem sc_is_made_of : FnScope ["thing", "signs", "sign"] ["thing", "signs"] (defScope s_is_made_of) := ⟨rfl, rfl, rfl, by decide +kernel, rfl, by decide +kernel, by decide +kernel⟩
theorem sc_is_text_of : FnScope ["thing", "signs", "long"] ["thing", "signs", "long"] (defScope s_is_text_of) := ⟨rfl, rfl, rfl, by decide +kernel, rfl, by decide +kernel, by decide +kernel⟩
theorem sc_is_signs : FnScope ["thing"] ["thing"] (defScope s_is_signs) := ⟨rfl, rfl, rfl, by decide +kernel, rfl, by decide +kernel, by decide +kernel⟩
theorem sc_is_place : FnScope ["thing"] ["thing"] (defScope s_is_place) := ⟨rfl, rfl, rfl, by decide +kernel, rfl, by decide +kernel, by decide +kernel⟩
theorem sc_refuse_wrong : FnScope ["right", "at", "is_right"] ["right"] (defScope s_refuse_wrong) := ⟨rfl, rfl, rfl, by decide +kernel, rfl, by decide +kernel, by decide +kernel⟩
theorem sc_is_sort : FnScope ["thing"] ["thing"] (defScope s_is_sort) := ⟨rfl, rfl, rfl, by decide +kernel, rfl, by decide +kernel, by decide +kernel⟩
theorem sc_places_of : FnScope ["sort"] ["sort"] (defScope s_places_of) := ⟨rfl, rfl, rfl, by decide +kernel, rfl, by decide +kernel, by decide +kernel⟩
theorem sc_is_near : FnScope ["thing", "sort", "place"] ["thing", "sort"] (defScope s_is_near) := ⟨rfl, rfl, rfl, by decide +kernel, rfl, by decide +kernel, by decide +kernel⟩
theorem sc_is_signs_of : FnScope ["thing", "signs"] ["thing", "signs"] (defScope s_is_signs_of) := ⟨rfl, rfl, rfl, by decide +kernel, rfl, by decide +kernel, by decide +kernel⟩
theorem sc_is_at : FnScope ["thing", "near", "signs", "_", "place", "held"] ["thing", "near", "signs"] (defScope s_is_at) := ⟨rfl, rfl, rfl, by decide +kernel, rfl, by decide +kernel, by decide +kernel⟩
theorem sc_is_count : FnScope ["thing", "signs", "_", "low", "high", "held"] ["thing", "signs"] (defScope s_is_count) := ⟨rfl, rfl, rfl, by decide +kernel, rfl, by decide +kernel, by decide +kernel⟩
theorem sc_is_test : FnScope ["thing", "near", "signs"] ["thing", "near", "signs"] (defScope s_is_test) := ⟨rfl, rfl, rfl, by decide +kernel, rfl, by decide +kernel, by decide +kernel⟩
theorem sc_is_cell_row : FnScope ["thing", "near", "signs", "own", "tests", "sign", "test"] ["thing", "near", "signs"] (defScope s_is_cell_row) := ⟨rfl, rfl, rfl, by decide +kernel, rfl, by decide +kernel, by decide +kernel⟩
theorem sc_is_block_row : FnScope ["thing", "signs", "fours", "four", "held"] ["thing", "signs"] (defScope s_is_block_row) := ⟨rfl, rfl, rfl, by decide +kernel, rfl, by decide +kernel, by decide +kernel⟩
theorem sc_Rule_init : FnScope ["self", "sort", "many", "near", "rows", "at", "row"] ["self", "sort", "many", "near", "rows"] (defScope s_Rule_init) := ⟨rfl, rfl, rfl, by decide +kernel, rfl, by decide +kernel, by decide +kernel⟩
theorem sc_Rule_is_row : FnScope ["self", "row"] ["self", "row"] (defScope s_Rule_is_row) := ⟨rfl, rfl, rfl, by decide +kernel, rfl, by decide +kernel, by decide +kernel⟩
theorem sc_Rule_kind : FnScope ["self"] ["self"] (defScope s_Rule_kind) := ⟨rfl, rfl, rfl, by decide +kernel, rfl, by decide +kernel, by decide +kernel⟩
theorem sc_Rule_many : FnScope ["self"] ["self"] (defScope s_Rule_many) := ⟨rfl, rfl, rfl, by decide +kernel, rfl, by decide +kernel, by decide +kernel⟩
theorem sc_Rule_near : FnScope ["self"] ["self"] (defScope s_Rule_near) := ⟨rfl, rfl, rfl, by decide +kernel, rfl, by decide +kernel, by decide +kernel⟩
theorem sc_Rule_rows : FnScope ["self"] ["self"] (defScope s_Rule_rows) := ⟨rfl, rfl, rfl, by decide +kernel, rfl, by decide +kernel, by decide +kernel⟩
theorem sc_Rule_signs : FnScope ["self"] ["self"] (defScope s_Rule_signs) := ⟨rfl, rfl, rfl, by decide +kernel, rfl, by decide +kernel, by decide +kernel⟩
theorem sc_Rule_becomes : FnScope ["self", "own", "around", "signs", "held", "tests", "sign"] ["self", "own", "around"] (defScope s_Rule_becomes) := ⟨rfl, rfl, rfl, by decide +kernel, rfl, by decide +kernel, by decide +kernel⟩
theorem sc_Rule_all_hold : FnScope ["self", "tests", "around", "test"] ["self", "tests", "around"] (defScope s_Rule_all_hold) := ⟨rfl, rfl, rfl, by decide +kernel, rfl, by decide +kernel, by decide +kernel⟩
theorem sc_Rule_holds : FnScope ["self", "test", "around", "_", "low", "high", "held", "sign"] ["self", "test", "around"] (defScope s_Rule_holds) := ⟨rfl, rfl, rfl, by decide +kernel, rfl, by decide +kernel, by decide +kernel⟩
theorem sc_Rule_block : FnScope ["self", "four", "fours", "told", "sign", "held"] ["self", "four"] (defScope s_Rule_block) := ⟨rfl, rfl, rfl, by decide +kernel, rfl, by decide +kernel, by decide +kernel⟩
theorem sc_Rule_keeps_ground : FnScope ["self"] ["self"] (defScope s_Rule_keeps_ground) := ⟨rfl, rfl, rfl, by decide +kernel, rfl, by decide +kernel, by decide +kernel⟩
theorem sc_Rule_turned : FnScope ["self", "way"] ["self", "way"] (defScope s_Rule_turned) := ⟨rfl, rfl, rfl, by decide +kernel, rfl, by decide +kernel, by decide +kernel⟩
theorem sc_Rule_eq : FnScope ["self", "other"] ["self", "other"] (defScope s_Rule_eq) := ⟨rfl, rfl, rfl, by decide +kernel, rfl, by decide +kernel, by decide +kernel⟩
theorem sc_Rule_len : FnScope ["self"] ["self"] (defScope s_Rule_len) := ⟨rfl, rfl, rfl, by decide +kernel, rfl, by decide +kernel, by decide +kernel⟩
theorem sc_Rule_repr : FnScope ["self"] ["self"] (defScope s_Rule_repr) := ⟨rfl, rfl, rfl, by decide +kernel, rfl, by decide +kernel, by decide +kernel⟩
theorem sc_law_bag : FnScope ["_law_script", "_law_cell"] ["_law_script"] (defScope s_law_bag) := ⟨rfl, rfl, rfl, by decide +kernel, rfl, by decide +kernel, by decide +kernel⟩
theorem sc_law_take : FnScope ["_law_bag_here", "_law_many", "_law_cell", "_law_value", "_law_first", "_law_second"] ["_law_bag_here", "_law_many"] (defScope s_law_take) := ⟨rfl, rfl, rfl, by decide +kernel, rfl, by decide +kernel, by decide +kernel⟩
theorem sc_law_signs : FnScope ["_law_many"] ["_law_many"] (defScope s_law_signs) := ⟨rfl, rfl, rfl, by decide +kernel, rfl, by decide +kernel, by decide +kernel⟩
theorem sc_law_some : FnScope ["_law_bag_here", "_law_signs_here", "_law_found", "_law_one", "_law_sign"] ["_law_bag_here", "_law_signs_here"] (defScope s_law_some) := ⟨rfl, rfl, rfl, by decide +kernel, rfl, by decide +kernel, by decide +kernel⟩
theorem sc_law_block_row : FnScope ["_law_bag_here", "_law_signs_here", "_law_fours", "_law_k"] ["_law_bag_here", "_law_signs_here"] (defScope s_law_block_row) := ⟨rfl, rfl, rfl, by decide +kernel, rfl, by decide +kernel, by decide +kernel⟩
theorem sc_law_block : FnScope ["_law_rule", "_law_four", "_law_fours", "_law_to", "_law_k"] ["_law_rule", "_law_four"] (defScope s_law_block) := ⟨rfl, rfl, rfl, by decide +kernel, rfl, by decide +kernel, by decide +kernel⟩
theorem sc_law_blocks : FnScope ["_law_bag_here", "_law_signs_here", "_law_found", "_law_k", "_law_four", "_law_way", "_law_at", "_law_j"] ["_law_bag_here", "_law_signs_here"] (defScope s_law_blocks) := ⟨rfl, rfl, rfl, by decide +kernel, rfl, by decide +kernel, by decide +kernel⟩
theorem sc_law : FnScope ["_law_script", "_law_bag_here", "_law_turn", "_law_many", "_law_signs_here", "_law_size", "_law_rows", "_law_parts", "_law_rule", "_law_blocks_here", "_law_four", "_law_found", "_law_k"] ["_law_script"] (defScope s_law) := ⟨rfl, rfl, rfl, by decide +kernel, rfl, by decide +kernel, by decide +kernel⟩
structure Tx (K : PySem.W.Frag) (mg : Str → Option Value) : Prop where
  ValueError : mg "ValueError" = none
  abs : mg "abs" = none
  all : mg "all" = none
  bool : mg "bool" = none
  enumerate : mg "enumerate" = none
  int : mg "int" = none
  isinstance : mg "isinstance" = none
  len : mg "len" = none
  list : mg "list" = none
  range : mg "range" = none
  set : mg "set" = none
  sorted : mg "sorted" = none
  str : mg "str" = none
  tuple : mg "tuple" = none
  zip : mg "zip" = none
  c_SIGNS : ∃ u, mg "SIGNS" = some u ∧ RelV (.str ".abcdefghijklmnopqrstuvwxyz") u
  c_MOST_ROWS : ∃ u, mg "MOST_ROWS" = some u ∧ RelV (.int 80) u
  c_MOST_TESTS : ∃ u, mg "MOST_TESTS" = some u ∧ RelV (.int 8) u
  c_MOST_AROUND : ∃ u, mg "MOST_AROUND" = some u ∧ RelV (.int 8) u
  x : Excs K mg ["CellError", "Wrong", "BadRow", "Unfit"] ["CellError", "Unfit"]
  i_Wrong : IniC K (He.ga K "Wrong") (He.ma K (He.ga K "Wrong") "__init__") ["at"]
  i_BadRow : IniC K (He.ga K "BadRow") (He.ma K (He.ga K "BadRow") "__init__") ["at"]
  o_Rule : OwnC K mg "Rule" ["_sort", "_many", "_near", "_rows"]
  e_Rule : OwnE K (He.ga K "Rule")
  t_PLACES : mg "PLACES" = some (.ref (He.ga K "PLACES")) ∧ ∀ H : Hp, SqT K H (He.ga K "PLACES") [.str "n", .str "ne", .str "e", .str "se", .str "s", .str "sw", .str "w", .str "nw"]
  t_SORTS : mg "SORTS" = some (.ref (He.ga K "SORTS")) ∧ ∀ H : Hp, SqT K H (He.ga K "SORTS") [.str "around", .str "halves", .str "blocks"]
  t_SIDES : mg "SIDES" = some (.ref (He.ga K "SIDES")) ∧ ∀ H : Hp, SqT K H (He.ga K "SIDES") [.str "n", .str "e", .str "s", .str "w"]
section
variable {P : Program} {w : World} {K : PySem.W.Frag} {mg : Str → Option Value} {base : Heap} {f : Addr} {fd : FuncData}
theorem ok_take (T : Tx K mg) (F : FunD K "_law_take" "_law_take" (defArgs s_law_take) (defBody s_law_take) (defScope s_law_take) [] [] f fd) : FnG P w K mg base CX0 1 f fd ["_law_bag_here", "_law_many"] (spTake K) := by
  refine FnG.of F sc_law_take (fun vs H Q E h => ?_) (fun cdv A outer s H vs Q E hr gd h => ?_)
  · obtain ⟨ω, m, rfl, _⟩ := h
    rfl
  · obtain ⟨⟨b, c, cs⟩, m, rfl, ⟨x0, x1, x2, g⟩, hm, hm2, k⟩ := h
    dsimp only at g k
    have hu : (A.deeper (envOfC "_law_take" (defScope s_law_take) s.heap.objs.size f cdv)).units + 64 < cLine := by have := hr.un; omega
    refine ⟨_, PSs.nox (C8.pss_cut
    (ps_if (pz_cmp (op_eqK K hu) (pe_ix (ix_K K) (zv 0) pe_int (fun _ _ => rfl)) pe_int (nomark _))
      (pss_cons
        (ps_set (i := 2) sc_law_take.nd rfl (Or.inl rfl) pe_int)
        (C8.pss_cut
        (ps_if (pz_cmp op_ltZ (pe_ix (ix_K K) (zv 0) pe_int (fun _ _ => rfl)) (pe_callB (call_lenK K) (by rfl) T.len (by decide +kernel) (pa_cons (pe_ix (ix_K K) (zv 0) pe_int (fun _ _ => rfl)) pa_nil)) (nomark _))
          (pss_one
            (ps_set (i := 2) sc_law_take.nd rfl (Or.inl rfl) (pe_ix (ix_K K) (pe_ix (ix_K K) (zv 0) pe_int (fun _ _ => rfl)) (pe_ix (ix_K K) (zv 0) pe_int (fun _ _ => rfl)) (fun _ _ => rfl))))
          pss_nil)
        (pss_cons
        (ps_augS (zv 0) pe_int (pget_K K) pe_int ip_Z set_Z)
        (C8.pss_cut
        (ps_if (pz_cmp op_geZ (zv 2) pe_int (nomark _))
          (pss_one
            (ps_asg (zv 2) (pg_sub (zv 0) pe_int set_Z)))
          pss_nil)
        (pss_one
        (ps_asg (pe_op op_modZ (pe_op op_addZ (pe_op op_addZ (pe_op op_mulZ (pe_ix (ix_K K) (zv 0) pe_int (fun _ _ => rfl)) pe_int) (pe_op op_modZ (zv 2) pe_int)) (pe_op op_mulZ pe_int (pe_ix (ix_K K) (zv 0) pe_int (fun _ _ => rfl)))) pe_int) (pg_sub (zv 0) pe_int set_Z)))))))
      pss_nil)
    (pss_cons
    (ps_if (pz_cmp op_gtZ (pe_ix (ix_K K) (zv 0) pe_int (fun _ _ => rfl)) pe_int (nomark _))
      (pss_cons
        (ps_set (i := 3) sc_law_take.nd rfl (Or.inl rfl) (pe_op op_modZ (pe_ix (ix_K K) (zv 0) pe_int (fun _ _ => rfl)) (zv 1)))
        (pss_cons
        (ps_asg (pe_op op_divZ (pe_ix (ix_K K) (zv 0) pe_int (fun _ _ => rfl)) (zv 1)) (pg_sub (zv 0) pe_int set_Z))
        (pss_one
        (ps_ret (zv 3)))))
      pss_nil)
    (pss_cons
    (ps_set (i := 4) sc_law_take.nd rfl (Or.inl rfl) (pe_op op_modZ (pe_op op_mulZ (pe_op op_addZ (pe_ix (ix_K K) (zv 0) pe_int (fun _ _ => rfl)) pe_int) pe_int) pe_int))
    (pss_cons
    (ps_set (i := 5) sc_law_take.nd rfl (Or.inl rfl) (pe_op op_modZ (pe_op op_mulZ (pe_op op_modZ (pe_op op_mulZ (zv 4) (zv 4)) pe_int) pe_int) pe_int))
    (pss_cons
    (ps_if (pz_cmp op_gtZ (zv 1) pe_int (nomark _))
      (pss_one
        (ps_ret (pe_op op_modZ (pe_op op_addZ (pe_op op_mulZ (zv 5) pe_int) (zv 4)) (zv 1))))
      pss_nil)
    (pss_one
    (ps_ret (pe_op op_modZ (pe_op op_divZ (zv 5) pe_int) (zv 1))))))))), ?_⟩
    try dsimp only [cxOf, Cx.nox]
    refine ⟨fun σ' H' => ∃ v y0 y1 y2, σ' = [some (V.ref b), some (V.int m), v, none, none, none] ∧ Go b H H' ∧ BagC K H' b c cs y0 y1 y2, ?_, ?_⟩
    · show (tIfS _ _ _) _ [some (V.ref b), some (V.int m), none, none, none, none] _
      dsimp only [tSeq, tIfS, zTest, tOp, zVar, tC, tAsg, tRet, tNext, tCB, tCons, tNil, gName, gSub, tAugS, List.getElem?_cons_zero, List.getElem?_cons_succ, List.set_cons_zero, List.set_cons_succ, onV, onB, onI, onR, gIxZ, ipZ, rSetZ, rSubZ, rModZ, rDivZ, rMulZ, rAddZ, rCmpZ, id]
      refine ixL (sq_of g.at_) rfl (eqI (iteD (fun z0 => ?_) fun _ => ⟨none, x0, x1, x2, rfl, Go.refl _ _, g⟩))
      -- the cell
      refine ⟨fun σ' H' => ∃ y, σ' = [some (V.ref b), some (V.int m), some (V.int y), none, none, none] ∧ H' = H ∧ 0 ≤ y, ?_, ?_⟩
      · dsimp only [tSeq, tIfS, zTest, tOp, zVar, tC, tAsg, tRet, tNext, tCB, tCons, tNil, gName, gSub, tAugS, List.getElem?_cons_zero, List.getElem?_cons_succ, List.set_cons_zero, List.set_cons_succ, onV, onB, onI, onR, gIxZ, ipZ, rSetZ, rSubZ, rModZ, rDivZ, rMulZ, rAddZ, rCmpZ, id]
        refine ixL (sq_of g.at_) rfl (ixL (sq_of g.at_) rfl (lenL g.cells rfl (iteD (fun z2 => ?_) fun _ => ⟨0, rfl, rfl, Int.le_refl _⟩)))
        rw [List.length_map] at z2
        obtain ⟨j, rfl⟩ := Int.eq_ofNat_of_zero_le g.h2
        have hj : j < cs.length := by omega
        refine ixL (sq_of g.at_) rfl (ixL (sq_of g.at_) rfl (ixN g.cells (v := .int cs[j]) (by rw [List.getElem?_map, List.getElem?_eq_getElem hj]; rfl) ?_))
        exact ⟨cs[j], rfl, rfl, g.hc _ (List.getElem_mem hj)⟩
      · rintro σ' H' ⟨y, rfl, rfl, hy⟩
        dsimp only [tSeq, tIfS, zTest, tOp, zVar, tC, tAsg, tRet, tNext, tCB, tCons, tNil, gName, gSub, tAugS, List.getElem?_cons_zero, List.getElem?_cons_succ, List.set_cons_zero, List.set_cons_succ, onV, onB, onI, onR, gIxZ, ipZ, rSetZ, rSubZ, rModZ, rDivZ, rMulZ, rAddZ, rCmpZ, id]
        refine ⟨_, _, by decide, sq_of g.at_, rfl, _, g.at_, ⟨by decide, by show (2 : Int) < 4; decide⟩, ?_⟩
        have g1 : BagC K (upd H' b (bagL x0 x1 (x2 + 1) c)) b c cs x0 x1 (x2 + 1) := g.set g.h0 g.h1 (by have := g.h2; omega)
        refine ⟨fun σ' H2 => ∃ y0, σ' = [some (V.ref b), some (V.int m), some (V.int y), none, none, none] ∧ Go b H' H2 ∧ BagC K H2 b c cs y0 x1 (x2 + 1), ?_, ?_⟩
        · dsimp only [tSeq, tIfS, zTest, tOp, zVar, tC, tAsg, tRet, tNext, tCB, tCons, tNil, gName, gSub, tAugS, List.getElem?_cons_zero, List.getElem?_cons_succ, List.set_cons_zero, List.set_cons_succ, onV, onB, onI, onR, gIxZ, ipZ, rSetZ, rSubZ, rModZ, rDivZ, rMulZ, rAddZ, rCmpZ, id]
          refine iteD (fun z3 => ?_) fun _ => ⟨x0, rfl, go_mut (Go.refl _ _), g1⟩
          refine ⟨_, g1.at_, ⟨by decide, by show (0 : Int) < 4; decide⟩, ?_⟩
          exact ⟨y, rfl, go_mut (go_mut (Go.refl _ _)), g1.set hy g1.h1 g1.h2⟩
        · rintro σ' H2 ⟨y0, rfl, gg, g2⟩
          dsimp only [tSeq, tIfS, zTest, tOp, zVar, tC, tAsg, tRet, tNext, tCB, tCons, tNil, gName, gSub, tAugS, List.getElem?_cons_zero, List.getElem?_cons_succ, List.set_cons_zero, List.set_cons_succ, onV, onB, onI, onR, gIxZ, ipZ, rSetZ, rSubZ, rModZ, rDivZ, rMulZ, rAddZ, rCmpZ, id]
          refine ixL (sq_of g2.at_) rfl ⟨.inl (.inr (by decide)), by decide, ?_⟩
          refine ixL (sq_of g2.at_) rfl ⟨.inl (.inl (by decide)), by decide, ?_⟩
          refine ⟨_, g2.at_, ⟨by decide, by show (1 : Int) < 4; decide⟩, ?_⟩
          refine ⟨_, y0, (x1 * 48271 + y % 2147483647 + 7919 * (x2 + 1)) % 2147483647, x2 + 1, rfl, go_mut gg, g2.set g2.h0 ⟨by omega, by omega⟩ g2.h2⟩
    · rintro σ' H' ⟨v, y0, y1, y2, rfl, gg, g1⟩
      dsimp only [tSeq, tIfS, zTest, tOp, zVar, tC, tAsg, tRet, tNext, tCB, tCons, tNil, gName, gSub, tAugS, List.getElem?_cons_zero, List.getElem?_cons_succ, List.set_cons_zero, List.set_cons_succ, onV, onB, onI, onR, gIxZ, ipZ, rSetZ, rSubZ, rModZ, rDivZ, rMulZ, rAddZ, rCmpZ, id]
      refine ixL (sq_of g1.at_) rfl (iteD (fun z0 => ?_) fun z0 => ?_)
      · refine ixL (sq_of g1.at_) rfl ⟨hm, ?_⟩
        have hl : m.natAbs.log2 < 9000 := by
          have : m.natAbs.log2 < 62 := (Nat.log2_lt (by omega)).mpr (by omega)
          omega
        refine ixL (sq_of g1.at_) rfl ⟨⟨hm, hl⟩, ?_⟩
        refine ⟨_, g1.at_, ⟨by decide, by show (0 : Int) < 4; decide⟩, ?_⟩
        exact k _ _ (Int.emod_nonneg _ (by omega)) (Int.emod_lt_of_pos _ hm) ⟨_, _, _, g1.set (Int.ediv_nonneg g1.h0 (by omega)) g1.h1 g1.h2⟩ (go_mut gg)
      · refine ixL (sq_of g1.at_) rfl ⟨.inl (.inr (by decide)), by decide, ?_⟩
        generalize hf : (y1 + 1) * 39373 % 1000000007 = x
        have hx : 0 ≤ x ∧ x < 1000000007 := by omega
        refine ⟨.inl (.inl (by omega)), by decide, .inl (.inl (by omega)), by decide, ?_⟩
        generalize hs : x * x % 998244353 * 30011 % 998244353 = y
        have hy : 0 ≤ y ∧ y < 998244353 := by omega
        have kk : ∀ z, Q (.int (z % m)) H' := fun z => k _ _ (Int.emod_nonneg _ (by omega)) (Int.emod_lt_of_pos _ hm) ⟨_, _, _, g1⟩ gg
        refine iteD (fun z1 => ?_) fun z1 => ?_
        · exact ⟨.inl (.inl (by omega)), hm, kk _⟩
        · exact ⟨⟨by decide, by decide⟩, hm, kk _⟩

/-! ### the kinds, of any thing -/
def inSg (sg : Str) (c : Nat) : Bool := decide (c ∈ sg.cps.toList)
def madeOf (sg : Str) : PyData → Bool
  | .str x => x.cps.toList.all (inSg sg)
  | _ => false
def dlen : PyData → Nat
  | .str x => x.length
  | _ => 0
def wholeD : PyData → Bool
  | .int _ => true
  | _ => false
def fromD (lo hi : Int) : PyData → Bool
  | .int i => decide (lo ≤ i) && decide (i ≤ hi)
  | _ => false
abbrev sgA : Str := ".abcdefghijklmnopqrstuvwxyz"
abbrev sgL : Str := "abcdefghijklmnopqrstuvwxyz"
def riseB : List Nat → Bool
  | [] => true
  | [_] => true
  | a :: b :: l => decide (a < b) && riseB (b :: l)
def signD (d : PyData) : Bool := madeOf sgA d && decide ((dlen d : Int) = 1)
def signsD : PyData → Bool
  | .str x => x.cps.toList.all (inSg sgA) && (!decide (x = "") && riseB x.cps.toList)
  | _ => false
def wordD (d : PyData) : Bool := madeOf sgL d && (decide ((1 : Int) ≤ dlen d) && decide ((dlen d : Int) ≤ 8))
abbrev placesV : List V := [.str "n", .str "ne", .str "e", .str "se", .str "s", .str "sw", .str "w", .str "nw"]
def placeD : PyData → Bool
  | .str x => inV (.str x) placesV
  | _ => false
def Short (d : PyData) : Prop := d.weight ≤ 20000
theorem Short.str {x : Str} (h : Short (.str x)) : x.length ≤ 20000 := by
  have h : PyData.weight (.str x) ≤ 20000 := h
  rw [show PyData.weight (.str x) = x.length from by simp only [PyData.weight]; rfl] at h
  exact h
def spMade (K : PySem.W.Frag) : Sp := fun vs H Q _ => ∃ v d sg, vs = [v, .str sg] ∧ Th K H v d ∧ Short d ∧ ∀ H', Same H H' → Q (.bl (madeOf sg d)) H'
theorem ok_made (T : Tx K mg) (F : FunD K "is_made_of" "is_made_of" (defArgs s_is_made_of) (defBody s_is_made_of) (defScope s_is_made_of) [] [] f fd) : FnG P w K mg base CX0 1 f fd ["thing", "signs"] (spMade K) := by
  refine FnG.of F sc_is_made_of (fun vs H Q E h => ?_) (fun cdv A outer s H vs Q E hr gd h => ?_)
  · obtain ⟨v, d, sg, rfl, _⟩ := h
    rfl
  · obtain ⟨v, d, sg, rfl, hv, hz, k⟩ := h
    have hu : (A.deeper (envOfC "is_made_of" (defScope s_is_made_of) s.heap.objs.size f cdv)).units + 64 < cLine := by have := hr.un; omega
    refine ⟨_, PSs.nox (pss_one
    (ps_ret (pz_and (pe_callB (call_isiK K) (by rfl) T.isinstance (by decide +kernel) (pa_cons (zv 0) (pa_cons (pe_bltn (v := .ty "str") (by rfl) T.str (by decide +kernel) rfl) pa_nil))) (pe_one (pe_callB (call_allK K) (by rfl) T.all (by decide +kernel) (pa_cons (pe_lc (own := [("sign", 2)]) rfl sc_is_made_of.nd (pi_str (zv 0)) (blkOk_by (by kernel_rfl)) (fun _ _ _ _ _ => (pg_name (i := 2) sc_is_made_of.nd rfl (Or.inl rfl))) (fun _ _ _ _ _ => pts_nil) (fun _ _ _ _ _ => (pe_cmpR (op_inK K) (zv 2) (zv 1) (by with_unfolding_all rfl)))) pa_nil)))))), ?_⟩
    try dsimp only [cxOf, Cx.nox]
    show (tRet _) _ [some v, some (.str sg), none] _
    walk_at "zd"
    refine isi_str hv (iteB (fun e => ?_) fun e => ?_)
    · obtain ⟨x, rfl, rfl⟩ := th_str hv e
      refine comp_str (x := x) (fun v => .bl (onSigns (inSg sg) v)) (fun R r => r H (Same.refl H)) (by have := hz.str; omega) ?_ fun D H' hD s1 h1 => ?_
      · intro y hy H' s1 Q' q
        obtain ⟨c, hc, rfl⟩ := mem_signs hy
        exact inS (K := K) (bl_is (onSigns1 (inSg sg) c).symm (q H' (Same.refl _)))
      · exact allL (sq_of (by rw [h1, signs_map])) (by rw [List.all_map]; rfl) (k H' s1)
    · exact bl_is (by cases d <;> first | rfl | cases e) (k H (Same.refl _))
def spWholeD (K : PySem.W.Frag) : Sp := fun vs H Q _ => ∃ v d, vs = [v] ∧ Th K H v d ∧ Q (.bl (wholeD d)) H
theorem ok_whole (T : Tx K mg) (F : FunD K "is_whole" "is_whole" (defArgs s_is_whole) (defBody s_is_whole) (defScope s_is_whole) [] [] f fd) : FnG P w K mg base CX0 1 f fd ["thing"] (spWholeD K) := by
  refine FnG.of F sc_is_whole (fun vs H Q E h => ?_) (fun cdv A outer s H vs Q E hr gd h => ?_)
  · obtain ⟨v, d, rfl, _⟩ := h
    rfl
  · obtain ⟨v, d, rfl, hv, k⟩ := h
    have hu : (A.deeper (envOfC "is_whole" (defScope s_is_whole) s.heap.objs.size f cdv)).units + 64 < cLine := by have := hr.un; omega
    refine ⟨_, PSs.nox (pss_one
    (ps_ret (pz_and (pe_callB (call_isiK K) (by rfl) T.isinstance (by decide +kernel) (pa_cons (zv 0) (pa_cons (pe_bltn (v := .ty "int") (by rfl) T.int (by decide +kernel) rfl) pa_nil))) (pe_one (pz_not (pe_callB (call_isiK K) (by rfl) T.isinstance (by decide +kernel) (pa_cons (zv 0) (pa_cons (pe_bltn (v := .ty "bool") (by rfl) T.bool (by decide +kernel) rfl) pa_nil)))))))), ?_⟩
    try dsimp only [cxOf, Cx.nox]
    show (tRet _) _ [some v] _
    walk_at "zd"
    refine isi_int hv ?_
    cases d with
    | int i => exact iteT (isi_bool hv k)
    | bool b => exact iteT (isi_bool hv k)
    | _ => exact iteF k
def spFromD (K : PySem.W.Frag) : Sp := fun vs H Q _ => ∃ v d, ∃ lo hi : Int, vs = [v, .int lo, .int hi] ∧ Th K H v d ∧ Q (.bl (fromD lo hi d)) H
theorem ok_from (T : Tx K mg) (c_is_whole : Cg P w K mg base CX0 1 "is_whole" (spWholeD K)) (F : FunD K "is_from_to" "is_from_to" (defArgs s_is_from_to) (defBody s_is_from_to) (defScope s_is_from_to) [] [] f fd) : FnG P w K mg base CX0 2 f fd ["thing", "low", "high"] (spFromD K) := by
  refine FnG.of F sc_is_from_to (fun vs H Q E h => ?_) (fun cdv A outer s H vs Q E hr gd h => ?_)
  · obtain ⟨v, d, lo, hi, rfl, _⟩ := h
    rfl
  · obtain ⟨v, d, lo, hi, rfl, hv, k⟩ := h
    have hu : (A.deeper (envOfC "is_from_to" (defScope s_is_from_to) s.heap.objs.size f cdv)).units + 64 < cLine := by have := hr.un; omega
    refine ⟨_, PSs.nox (pss_one
    (ps_ret (pz_and (pe_cg c_is_whole hr gd (by decide) (by rfl) pass0 (pa_cons (zv 0) pa_nil)) (pe_one (pz_chain op_leZ op_leZ (zv 1) (zv 0) (zv 2)))))), ?_⟩
    try dsimp only [cxOf, Cx.nox]
    show (tRet _) _ [some v, some (.int lo), some (.int hi)] _
    walk_at "zd"
    refine ⟨v, d, rfl, hv, ?_⟩
    cases hv with
    | int i =>
      refine iteT (leI ?_)
      refine iteD (fun h1 => leI ?_) fun h1 => ?_
      · show Q (.bl (decide (i ≤ hi))) H
        have e : fromD lo hi (.int i) = decide (i ≤ hi) := by show (decide (lo ≤ i) && _) = _; rw [decide_eq_true h1, Bool.true_and]
        rw [e] at k
        exact k
      · have e : fromD lo hi (.int i) = false := by show (decide (lo ≤ i) && _) = _; rw [decide_eq_false h1, Bool.false_and]
        rw [e] at k
        exact k
    | _ => exact iteF k
def spText (K : PySem.W.Frag) : Sp := fun vs H Q _ => ∃ v d sg, ∃ n : Int, vs = [v, .str sg, .int n] ∧ Th K H v d ∧ Short d ∧ ∀ H', Same H H' → Q (.bl (madeOf sg d && decide ((dlen d : Int) = n))) H'
theorem ok_text (T : Tx K mg) (c_is_made_of : Cg P w K mg base CX0 1 "is_made_of" (spMade K)) (F : FunD K "is_text_of" "is_text_of" (defArgs s_is_text_of) (defBody s_is_text_of) (defScope s_is_text_of) [] [] f fd) : FnG P w K mg base CX0 2 f fd ["thing", "signs", "long"] (spText K) := by
  refine FnG.of F sc_is_text_of (fun vs H Q E h => ?_) (fun cdv A outer s H vs Q E hr gd h => ?_)
  · obtain ⟨v, d, sg, n, rfl, _⟩ := h
    rfl
  · obtain ⟨v, d, sg, n, rfl, hv, hz, k⟩ := h
    have hu : (A.deeper (envOfC "is_text_of" (defScope s_is_text_of) s.heap.objs.size f cdv)).units + 64 < cLine := by have := hr.un; omega
    refine ⟨_, PSs.nox (pss_one
    (ps_ret (pz_and (pe_cg c_is_made_of hr gd (by decide) (by rfl) pass0 (pa_cons (zv 0) (pa_cons (zv 1) pa_nil))) (pe_one (pe_cmpR (op_eqK K hu) (pe_callB (call_lenK K) (by rfl) T.len (by decide +kernel) (pa_cons (zv 0) pa_nil)) (zv 2) (nomark _)))))), ?_⟩
    try dsimp only [cxOf, Cx.nox]
    show (tRet _) _ [some v, some (.str sg), some (.int n)] _
    walk_at "zd"
    refine ⟨v, d, sg, rfl, hv, hz, fun H1 s1 => ?_⟩
    have kk := k H1 s1
    cases q : madeOf sg d with
    | false =>
      rw [q] at kk
      exact iteF kk
    | true =>
      rw [q, Bool.true_and] at kk
      refine iteT ?_
      cases hv with
      | str x => exact lenS (by have := hz.str; exact line5 (by omega)) (eqI kk)
      | _ => cases q
def spOn (K : PySem.W.Frag) (fn : PyData → Bool) : Sp := fun vs H Q _ => ∃ v d, vs = [v] ∧ Th K H v d ∧ Short d ∧ ∀ H', Same H H' → Q (.bl (fn d)) H'
theorem ok_place (T : Tx K mg) (F : FunD K "is_place" "is_place" (defArgs s_is_place) (defBody s_is_place) (defScope s_is_place) [] [] f fd) : FnG P w K mg base CX0 1 f fd ["thing"] (spOn K placeD) := by
  refine FnG.of F sc_is_place (fun vs H Q E h => ?_) (fun cdv A outer s H vs Q E hr gd h => ?_)
  · obtain ⟨v, d, rfl, _⟩ := h
    rfl
  · obtain ⟨v, d, rfl, hv, hz, k⟩ := h
    have hu : (A.deeper (envOfC "is_place" (defScope s_is_place) s.heap.objs.size f cdv)).units + 64 < cLine := by have := hr.un; omega
    refine ⟨_, PSs.nox (pss_one
    (ps_ret (pz_and (pe_callB (call_isiK K) (by rfl) T.isinstance (by decide +kernel) (pa_cons (zv 0) (pa_cons (pe_bltn (v := .ty "str") (by rfl) T.str (by decide +kernel) rfl) pa_nil))) (pe_one (pe_cmpR (op_inK K) (zv 0) (pe_glob (v := .ref (He.ga K "PLACES")) (by rfl) T.t_PLACES.1 rfl) (by with_unfolding_all rfl)))))), ?_⟩
    try dsimp only [cxOf, Cx.nox]
    show (tRet _) _ [some v] _
    walk_at "zd"
    have kk := k H (Same.refl H)
    refine isi_str hv ?_
    cases hv with
    | str x => exact iteT ⟨placesV, .inr (T.t_PLACES.2 H), rfl, rfl, kk⟩
    | _ => exact iteF kk

/-! ### signs that rise -/
theorem rise_lt : ∀ {l : List Nat}, riseB l = true → l.Pairwise (· < ·)
  | [], _ => List.Pairwise.nil
  | [a], _ => List.pairwise_singleton _ a
  | a :: b :: l, h => by
    obtain ⟨h1, h2⟩ := Bool.and_eq_true_iff.mp h
    have ih := rise_lt h2
    refine List.pairwise_cons.mpr ⟨fun c m => ?_, ih⟩
    have h1 := of_decide_eq_true h1
    rcases List.mem_cons.mp m with e | m
    · rw [e]; exact h1
    · exact Nat.lt_trans h1 ((List.pairwise_cons.mp ih).1 c m)
theorem lt_rise : ∀ {l : List Nat}, l.Pairwise (· < ·) → riseB l = true
  | [], _ => rfl
  | [a], _ => rfl
  | a :: b :: l, h => by
    obtain ⟨h1, h2⟩ := List.pairwise_cons.mp h
    exact Bool.and_eq_true_iff.mpr ⟨decide_eq_true (h1 b List.mem_cons_self), lt_rise h2⟩
theorem rise_eq : ∀ {l m : List Nat}, l.Pairwise (· < ·) → m.Pairwise (· < ·) → (∀ c, c ∈ l ↔ c ∈ m) → l = m
  | [], [], _, _, _ => rfl
  | [], b :: m, _, _, h => by have := (h b).mpr List.mem_cons_self; cases this
  | a :: l, [], _, _, h => by have := (h a).mp List.mem_cons_self; cases this
  | a :: l, b :: m, h1, h2, h => by
    obtain ⟨p1, p2⟩ := List.pairwise_cons.mp h1
    obtain ⟨q1, q2⟩ := List.pairwise_cons.mp h2
    have e : a = b := by
      rcases List.mem_cons.mp ((h a).mp List.mem_cons_self) with e | m1
      · exact e
      · rcases List.mem_cons.mp ((h b).mpr List.mem_cons_self) with e | m2
        · exact e.symm
        · have := q1 a m1
          have := p1 b m2
          omega
    subst e
    refine congrArg _ (rise_eq p2 q2 fun c => ⟨fun m1 => ?_, fun m1 => ?_⟩)
    · rcases List.mem_cons.mp ((h c).mp (List.mem_cons_of_mem _ m1)) with e | m2
      · have := p1 c m1
        omega
      · exact m2
    · rcases List.mem_cons.mp ((h c).mpr (List.mem_cons_of_mem _ m1)) with e | m2
      · have := q1 c m1
        omega
      · exact m2
theorem ones_of : ∀ {l : List Str}, (∀ x ∈ l, ∃ c, x = one c) → ∃ m : List Nat, l = m.map one
  | [], _ => ⟨[], rfl⟩
  | x :: l, h => by
    obtain ⟨c, rfl⟩ := h x List.mem_cons_self
    obtain ⟨m, rfl⟩ := ones_of (l := l) fun y hy => h y (List.mem_cons_of_mem _ hy)
    exact ⟨c :: m, rfl⟩
theorem one_inj {a b : Nat} (h : one a = one b) : a = b := by
  have e : (one a).cps.toList = (one b).cps.toList := by rw [h]
  have e : [a] = [b] := e
  exact (List.cons.inj e).1
theorem ones_lt : ∀ {m : List Nat} {p : Nat}, (m.map one).Nodup → p ∉ m → risingS (one p) (m.map one) = true → (p :: m).Pairwise (· < ·)
  | [], p, _, _, _ => List.pairwise_singleton _ p
  | a :: m, p, nd, np, h => by
    obtain ⟨h1, h2⟩ := Bool.and_eq_true_iff.mp (show (!ltCps (one a).cps.toList (one p).cps.toList && risingS (one a) (m.map one)) = true from h)
    obtain ⟨n1, n2⟩ := List.nodup_cons.mp nd
    have ih := ones_lt n2 (fun q => n1 (List.mem_map.mpr ⟨a, q, rfl⟩)) h2
    have le : ¬ a < p := by
      intro q
      have : ltCps (one a).cps.toList (one p).cps.toList = true := by
        show (decide (a < p) || _) = true
        rw [decide_eq_true q]
        rfl
      rw [this] at h1
      cases h1
    have ne : a ≠ p := fun e => np (by rw [e]; exact List.mem_cons_self)
    have lt : p < a := by omega
    refine List.pairwise_cons.mpr ⟨fun c q => ?_, ih⟩
    rcases List.mem_cons.mp q with e | q
    · rw [e]; exact lt
    · exact Nat.lt_trans lt ((List.pairwise_cons.mp ih).1 c q)
theorem ones_rise {m : List Nat} (nd : (m.map one).Nodup) (h : sortedS (m.map one) = true) : m.Pairwise (· < ·) := by
  cases m with
  | nil => exact List.Pairwise.nil
  | cons a m =>
    obtain ⟨n1, n2⟩ := List.nodup_cons.mp nd
    exact ones_lt n2 (fun q => n1 (List.mem_map.mpr ⟨a, q, rfl⟩)) h
/-- the signs as they stand are the signs in order, each once -/
theorem signs_sorted {x : Str} {l : List Str} (nd : l.Nodup) (mem : ∀ k, k ∈ x.cps.toList.map one ↔ k ∈ l) (so : sortedS l = true) : decide (x.cps.toList.map one = l) = riseB x.cps.toList := by
  obtain ⟨m, rfl⟩ := ones_of (l := l) fun y hy => by
    obtain ⟨c, _, e⟩ := List.mem_map.mp ((mem y).mpr hy)
    exact ⟨c, e.symm⟩
  have pm := ones_rise nd so
  have mm : ∀ c, c ∈ x.cps.toList ↔ c ∈ m := fun c => by
    refine ⟨fun h => ?_, fun h => ?_⟩
    · obtain ⟨c2, h2, e⟩ := List.mem_map.mp ((mem (one c)).mp (List.mem_map.mpr ⟨c, h, rfl⟩))
      rw [← one_inj e]
      exact h2
    · obtain ⟨c2, h2, e⟩ := List.mem_map.mp ((mem (one c)).mpr (List.mem_map.mpr ⟨c, h, rfl⟩))
      rw [← one_inj e]
      exact h2
  cases q : riseB x.cps.toList with
  | true =>
    rw [rise_eq (rise_lt q) pm mm]
    exact decide_eq_true rfl
  | false =>
    refine decide_eq_false fun e => ?_
    have e2 : x.cps.toList = m := by
      have : Function.Injective one := fun a b h => one_inj h
      exact (List.map_inj_right (fun a b h => one_inj h)).mp e
    rw [e2, lt_rise pm] at q
    cases q
theorem sg_code {c : Nat} (h : c ∈ sgA.cps.toList) : c < 0x110000 := by
  have : sgA.cps.toList.all (fun c => decide (c < 0x110000)) = true := by decide
  exact of_decide_eq_true (List.all_eq_true.mp this c h)
theorem ok_signs (T : Tx K mg) (c_is_made_of : Cg P w K mg base CX0 1 "is_made_of" (spMade K)) (F : FunD K "is_signs" "is_signs" (defArgs s_is_signs) (defBody s_is_signs) (defScope s_is_signs) [] [] f fd) : FnG P w K mg base CX0 2 f fd ["thing"] (spOn K signsD) := by
  refine FnG.of F sc_is_signs (fun vs H Q E h => ?_) (fun cdv A outer s H vs Q E hr gd h => ?_)
  · obtain ⟨v, d, rfl, _⟩ := h
    rfl
  · obtain ⟨v, d, rfl, hv, hz, k⟩ := h
    have hu : (A.deeper (envOfC "is_signs" (defScope s_is_signs) s.heap.objs.size f cdv)).units + 64 < cLine := by have := hr.un; omega
    refine ⟨_, PSs.nox (pss_one
    (ps_ret (pz_and (pe_cg c_is_made_of hr gd (by decide) (by rfl) pass0 (pa_cons (zv 0) (pa_cons (C8.pe_gc (by rfl) T.c_SIGNS) pa_nil))) (pz_and (pe_cmpR (op_neK K hu) (zv 0) pe_str (nomark _)) (pe_one (pe_cmpR (op_eqK K hu) (pe_callTy (call_listK K) (by rfl) T.list (by decide +kernel) (pa_cons (zv 0) pa_nil)) (pe_callB (call_sortT P w) (by rfl) T.sorted (by decide +kernel) (pa_cons (pe_callTy (call_setTx P w K) (by rfl) T.set (by decide +kernel) (pa_cons (zv 0) pa_nil)) pa_nil)) (nomark _))))))), ?_⟩
    try dsimp only [cxOf, Cx.nox]
    show (tRet _) _ [some v] _
    walk_at "zd"
    refine ⟨v, d, sgA, rfl, hv, hz, fun H1 s1 => ?_⟩
    have kk := fun H2 s2 => k H2 (s1.trans s2)
    clear k
    cases hv with
    | str x =>
      have hx := hz.str
      have e : signsD (.str x) = (madeOf sgA (.str x) && (!decide (x = "") && riseB x.cps.toList)) := rfl
      rw [e] at kk
      cases q : madeOf sgA (.str x) with
      | false =>
        rw [q] at kk
        exact iteF (kk H1 (Same.refl _))
      | true =>
        rw [q, Bool.true_and] at kk
        refine iteT (eqS ?_)
        refine iteN (fun z => ?_) fun z => ?_
        · have z := of_decide_eq_false z
          rw [decide_eq_false z, Bool.not_false, Bool.true_and] at kk
          have hU : ∀ y ∈ x.cps.toList.map one, y ∈ sgA.cps.toList.map one := fun y hy => by
            obtain ⟨c, hc, rfl⟩ := List.mem_map.mp hy
            have : inSg sgA c = true := List.all_eq_true.mp q c hc
            exact List.mem_map.mpr ⟨c, of_decide_eq_true this, rfl⟩
          have lm : (x.cps.toList.map one).length ≤ 20000 := by rw [List.length_map, str_len]; exact hx
          refine ⟨by rw [sizeLine_eq]; omega, fun L hL => ⟨x.cps.toList.map one, .inr ⟨x, rfl, rfl⟩, .inr ⟨sgA.cps.toList.map one, hU, by unfold scanBound; decide⟩, fun p n hp => ⟨p, _, n, rfl, upd_same, fun l nd _ mm => ?_, fun l D nd mm so hD => ?_⟩⟩⟩
          · have l27 : (sgA.cps.toList.map one).length = 27 := by decide
            by_cases g : (sgA.cps.toList.map one).length ≤ l.length
            · have := (perm_of_sub l (sgA.cps.toList.map one) nd (fun y hy => hU y (of_decide_eq_true ((mm y).mpr hy))) g).length_eq
              omega
            · omega
          · have eL : (signsV x) = (x.cps.toList.map one).map V.str := by
              unfold signsV
              rw [List.map_map]
              rfl
            have sA := (same_new (o := .lst (signsV x)) hL)
            have sB := (same_new (o := SetT P w p (fun k => decide (k ∈ x.cps.toList.map one)) n) hp)
            have sC := (same_new (o := .lst (l.map V.str)) hD)
            have mem : ∀ k, k ∈ x.cps.toList.map one ↔ k ∈ l := fun y => ⟨fun h => (mm y).mp (decide_eq_true h), fun h => of_decide_eq_true ((mm y).mpr h)⟩
            have okx : ∀ y ∈ x.cps.toList.map one, okS y = true := fun y hy => by
              obtain ⟨c, hc, rfl⟩ := List.mem_map.mp hy
              have : inSg sgA c = true := List.all_eq_true.mp q c hc
              exact ok_one (x := sgA) (by decide) (of_decide_eq_true this)
            refine eqStrs (l := x.cps.toList.map one) (m := l) (sq_of (sC _ _ (sB _ _ (by rw [upd_same, eL])))) (sq_of upd_same) okx (fun y hy => okx y ((mem y).mpr hy)) ?_
            rw [signs_sorted nd mem so]
            exact kk _ ((sA.trans sB).trans sC)
        · have z := of_decide_eq_true z
          rw [decide_eq_true z, Bool.not_true, Bool.false_and] at kk
          exact kk H1 (Same.refl _)
    | _ => exact iteF (kk H1 (Same.refl _))

/-! ### a rule's sort and near places, of any thing -/
abbrev sortsV : List V := [.str "around", .str "halves", .str "blocks"]
abbrev sidesV : List V := [.str "n", .str "e", .str "s", .str "w"]
def sortD : PyData → Bool
  | .str x => inV (.str x) sortsV
  | _ => false
theorem ok_sort (T : Tx K mg) (F : FunD K "_is_sort" "_is_sort" (defArgs s_is_sort) (defBody s_is_sort) (defScope s_is_sort) [] [] f fd) : FnG P w K mg base CX0 1 f fd ["thing"] (spOn K sortD) := by
  refine FnG.of F sc_is_sort (fun vs H Q E h => ?_) (fun cdv A outer s H vs Q E hr gd h => ?_)
  · obtain ⟨v, d, rfl, _⟩ := h
    rfl
  · obtain ⟨v, d, rfl, hv, hz, k⟩ := h
    have hu : (A.deeper (envOfC "_is_sort" (defScope s_is_sort) s.heap.objs.size f cdv)).units + 64 < cLine := by have := hr.un; omega
    refine ⟨_, PSs.nox (pss_one
    (ps_ret (pz_and (pe_callB (call_isiK K) (by rfl) T.isinstance (by decide +kernel) (pa_cons (zv 0) (pa_cons (pe_bltn (v := .ty "str") (by rfl) T.str (by decide +kernel) rfl) pa_nil))) (pe_one (pe_cmpR (op_inK K) (zv 0) (pe_glob (v := .ref (He.ga K "SORTS")) (by rfl) T.t_SORTS.1 rfl) (by with_unfolding_all rfl)))))), ?_⟩
    try dsimp only [cxOf, Cx.nox]
    show (tRet _) _ [some v] _
    walk_at "zd"
    have kk := k H (Same.refl H)
    refine isi_str hv ?_
    cases hv with
    | str x => exact iteT ⟨sortsV, .inr (T.t_SORTS.2 H), rfl, rfl, kk⟩
    | _ => exact iteF kk
def placesOf (z : Str) : List V := if z = "around" then placesV else if z = "halves" then sidesV else []
def spPlaces (K : PySem.W.Frag) : Sp := fun vs H Q _ => ∃ z : Str, vs = [.str z] ∧ ∀ t H', Same H H' → SqT K H' t (placesOf z) → Q (.ref t) H'
theorem ok_places (T : Tx K mg) (F : FunD K "_places_of" "_places_of" (defArgs s_places_of) (defBody s_places_of) (defScope s_places_of) [] [] f fd) : FnG P w K mg base CX0 1 f fd ["sort"] (spPlaces K) := by
  refine FnG.of F sc_places_of (fun vs H Q E h => ?_) (fun cdv A outer s H vs Q E hr gd h => ?_)
  · obtain ⟨z, rfl, _⟩ := h
    rfl
  · obtain ⟨z, rfl, k⟩ := h
    have hu : (A.deeper (envOfC "_places_of" (defScope s_places_of) s.heap.objs.size f cdv)).units + 64 < cLine := by have := hr.un; omega
    refine ⟨_, PSs.nox (pss_cons
    (ps_if (pz_cmp (op_eqK K hu) (zv 0) pe_str (nomark _))
      (pss_one
        (ps_ret (pe_glob (v := .ref (He.ga K "PLACES")) (by rfl) T.t_PLACES.1 rfl)))
      pss_nil)
    (pss_one
    (ps_ret (pe_ifExp (pz_cmp (op_eqK K hu) (zv 0) pe_str (nomark _)) (pe_glob (v := .ref (He.ga K "SIDES")) (by rfl) T.t_SIDES.1 rfl) (pe_tup pa_nil))))), ?_⟩
    try dsimp only [cxOf, Cx.nox]
    show (tSeq _ _) _ [some (.str z)] _
    walk_at "zd"
    refine eqS (iteD (fun e => ?_) fun e => ?_)
    · refine k _ H (Same.refl _) ?_
      have e1 : placesOf z = placesV := if_pos e
      rw [e1]
      exact T.t_PLACES.2 H
    walk_at "zd"
    have e1 : placesOf z = if z = "halves" then sidesV else [] := if_neg e
    refine eqS (iteD (fun e2 => ?_) fun e2 => ?_)
    · refine k _ H (Same.refl _) ?_
      rw [e1, if_pos e2]
      exact T.t_SIDES.2 H
    · refine ⟨line5 (show 0 ≤ 100000 by decide), fun t ht => k t _ (same_new ht) ?_⟩
      rw [e1, if_neg e2]
      exact st_of upd_same

def isTup : PyData → Bool
  | .tuple _ => true
  | _ => false
theorem isi_tup {K : PySem.W.Frag} {H : Hp} {v : V} {d : PyData} {Q : VK} (h : Th K H v d) (q : Q (.bl (isTup d)) H) : rIsiZ K [v, .ty "tuple"] H Q := ⟨d, _, h, by cases d <;> (dsimp only [tyOf, isTup]; decide +kernel), q⟩
theorem th_tup {K : PySem.W.Frag} {H : Hp} {v : V} {d : PyData} (h : Th K H v d) (e : isTup d = true) : ∃ a xs ds, d = .tuple ds ∧ v = .ref a ∧ SqT K H a xs ∧ ThA K H xs ds := by
  cases h with
  | tup h a => exact ⟨_, _, _, rfl, rfl, h, a⟩
  | _ => cases e
/-- a comprehension over a tuple, told as a list -/
theorem comp_tupL {K : PySem.W.Frag} {tl te : TE} {a : Addr} {xs : List V} {vs : List Nat} {j : Nat} {σ : L2.St} {H : Hp} {Q : VK} (ys : List V) (ht : SqT K H a xs) (h0 : ∀ R : VK, R (.ref a) H → tl σ H R) (hl : ys.length = xs.length) (hz : xs.length ≤ 100000)
    (he : ∀ (i : Nat) (x y : V), xs[i]? = some x → ys[i]? = some y → ∀ H', Same H H' → ∀ Q' : VK, (∀ H'', Same H' H'' → Q' y H'') → te ((σ.set j none).set j (some x)) H' Q')
    (k : ∀ D H', H D = none → Same H H' → H' D = some (.lst ys) → Q (.ref D) H') (hv : vs = [j] := by rfl) : tLc (iTup K tl) (gName j) tYes te vs σ H Q :=
  tlcL (hv := hv) (Itt K a) xs ys (fun H => SqT K H a xs) hl (fun R r => h0 _ ⟨a, rfl, ⟨xs, ht⟩, r H (Same.refl _) ht⟩) walk_tup (fun _ _ s q => Same.tup s q) hz he k
theorem mem_wt : ∀ {ds : List PyData} {d : PyData}, d ∈ ds → d.weight ≤ PyData.weightAll ds
  | e :: ds, d, h => by
    simp only [PyData.weightAll]
    rcases List.mem_cons.mp h with rfl | h
    · omega
    · have := mem_wt h
      omega
theorem len_wt : ∀ (ds : List PyData), ds.length ≤ PyData.weightAll ds
  | [] => Nat.zero_le _
  | e :: ds => by
    simp only [PyData.weightAll, List.length_cons]
    have := len_wt ds
    omega
def inPl (z : Str) : PyData → Bool
  | .str x => inV (.str x) (placesOf z)
  | _ => false
def txtOf : PyData → Str
  | .str x => x
  | _ => ""
def nearD (z : Str) : PyData → Bool
  | .tuple ds => ds.all placeD && (ds.all (inPl z) && decide (ds.map txtOf).Nodup)
  | _ => false
theorem txts {ds : List PyData} (h : ds.all placeD = true) : ds = (ds.map txtOf).map PyData.str := by
  induction ds with
  | nil => rfl
  | cons d ds ih =>
    rw [List.all_cons, Bool.and_eq_true] at h
    cases d with
    | str x => rw [List.map_cons, List.map_cons, ← ih h.2]; rfl
    | _ => cases h.1
theorem thA_txt {K : PySem.W.Frag} {H : Hp} : ∀ {rows : List Str} {xs : List V}, ThA K H xs (rows.map .str) → xs = rows.map V.str
  | [], _, .nil => rfl
  | x :: rows, _, .cons h a => by
    cases h
    rw [thA_txt a]
    rfl
theorem nodup_len {l ks : List Str} (h1 : l.Nodup) (h2 : ∀ k, k ∈ ks ↔ k ∈ l) : decide ((l.length : Int) = (ks.length : Int)) = decide ks.Nodup := by
  rw [Bool.eq_iff_iff, decide_eq_true_iff, decide_eq_true_iff]
  refine ⟨fun e => ?_, fun nd => ?_⟩
  · exact (perm_of_sub l ks h1 (fun x m => (h2 x).mpr m) (by omega)).nodup_iff.mp h1
  · have := same_len h1 nd fun x => (h2 x).symm
    omega
def spNear (K : PySem.W.Frag) : Sp := fun vs H Q _ => ∃ v d, ∃ z : Str, vs = [v, .str z] ∧ Th K H v d ∧ Short d ∧ ∀ H', Same H H' → Q (.bl (nearD z d)) H'
theorem ok_near (T : Tx K mg) (c_is_place : Cg P w K mg base CX0 1 "is_place" (spOn K placeD)) (c_places_of : Cg P w K mg base CX0 1 "_places_of" (spPlaces K)) (F : FunD K "_is_near" "_is_near" (defArgs s_is_near) (defBody s_is_near) (defScope s_is_near) [] [] f fd) : FnG P w K mg base CX0 2 f fd ["thing", "sort"] (spNear K) := by
  refine FnG.of F sc_is_near (fun vs H Q E h => ?_) (fun cdv A outer s H vs Q E hr gd h => ?_)
  · obtain ⟨v, d, z, rfl, _⟩ := h
    rfl
  · obtain ⟨v, d, z, rfl, hv, hz, k⟩ := h
    have hu : (A.deeper (envOfC "_is_near" (defScope s_is_near) s.heap.objs.size f cdv)).units + 64 < cLine := by have := hr.un; omega
    refine ⟨_, PSs.nox (pss_cons
    (ps_if (PW.pt (pw_or (pt_not (pz_val (pe_callB (call_isiK K) (by rfl) T.isinstance (by decide +kernel) (pa_cons (zv 0) (pa_cons (pe_bltn (v := .ty "tuple") (by rfl) T.tuple (by decide +kernel) rfl) pa_nil))))) (pw_or1 (pt_not (pz_val (pe_callB (call_allK K) (by rfl) T.all (by decide +kernel) (pa_cons (pe_lc (own := [("place", 2)]) rfl sc_is_near.nd (pi_tupK K (zv 0)) (blkOk_by (by kernel_rfl)) (fun _ _ _ _ _ => (pg_name (i := 2) sc_is_near.nd rfl (Or.inl rfl))) (fun _ _ _ _ _ => pts_nil) (fun _ _ _ _ _ => (pe_cg c_is_place hr gd (by decide) (by rfl) pass0 (pa_cons (zv 2) pa_nil)))) pa_nil)))))))
      (pss_one
        (ps_ret pe_bl))
      pss_nil)
    (pss_cons
    (ps_if (pt_not (pz_val (pe_callB (call_allK K) (by rfl) T.all (by decide +kernel) (pa_cons (pe_lc (own := [("place", 2)]) rfl sc_is_near.nd (pi_tupK K (zv 0)) (blkOk_by (by kernel_rfl)) (fun _ _ _ _ _ => (pg_name (i := 2) sc_is_near.nd rfl (Or.inl rfl))) (fun _ _ _ _ _ => pts_nil) (fun _ _ _ _ _ => (pe_cmpR (op_inK K) (zv 2) (pe_cg c_places_of hr gd (by decide) (by rfl) pass0 (pa_cons (zv 1) pa_nil)) (by with_unfolding_all rfl)))) pa_nil))))
      (pss_one
        (ps_ret pe_bl))
      pss_nil)
    (pss_one
    (ps_ret (pe_cmpR (op_eqK K hu) (pe_callB (call_lenT P w) (by rfl) T.len (by decide +kernel) (pa_cons (pe_callTy (call_setTp P w K) (by rfl) T.set (by decide +kernel) (pa_cons (zv 0) pa_nil)) pa_nil)) (pe_callB (call_lenK K) (by rfl) T.len (by decide +kernel) (pa_cons (zv 0) pa_nil)) (nomark _)))))), ?_⟩
    try dsimp only [cxOf, Cx.nox]
    show (tSeq _ _) _ [some v, some (.str z), none] _
    walk_at "zd"
    refine isi_tup hv ?_
    cases ht : isTup d with
    | false =>
      have e : nearD z d = false := by cases d <;> first | rfl | cases ht
      have kk := k H (Same.refl H)
      rw [e] at kk
      exact iteT kk
    | true =>
      refine iteF ?_
      obtain ⟨a, xs, ds, rfl, rfl, hS, hA⟩ := th_tup hv ht
      have hw : PyData.weightAll ds ≤ 20000 := by
        have h : PyData.weight (.tuple ds) ≤ 20000 := hz
        simpa only [PyData.weight] using h
      have hl := hA.len
      have hl2 := len_wt ds
      refine comp_tupL (K := K) ((ds.map placeD).map V.bl) hS (fun R r => r) (by rw [List.length_map, List.length_map, hl]) (by omega) ?_ fun D H1 hD s1 e1 => ?_
      · intro i x y hx hy H' s' Q' q
        obtain ⟨d, hd, tx⟩ := hA.get hx
        have e := mapb_get hd hy
        subst e
        walk_at "zd"
        exact ⟨x, d, rfl, tx.mono s', Nat.le_trans (mem_wt (List.mem_of_getElem? hd)) hw, fun H'' s'' => q H'' s''⟩
      refine allL (sq_of e1) (by rw [List.all_map]) ?_
      refine iteN (fun h => ?_) fun h => ?_
      · have h : ds.all placeD = false := h
        have e : nearD z (.tuple ds) = false := by show (ds.all placeD && _) = false; rw [h, Bool.false_and]
        have kk := k H1 s1
        rw [e] at kk
        exact kk
      have h : ds.all placeD = true := h
      have ex := txts h
      walk_at "zd"
      have hS1 := Same.tup s1 hS
      have hA1 := ThA.mono s1 _ _ hA
      have fl : (placesOf z).all flatV = true := by unfold placesOf; split; rfl; split <;> rfl
      refine comp_tupL (K := K) ((ds.map (inPl z)).map V.bl) hS1 (fun R r => r) (by rw [List.length_map, List.length_map, hl]) (by omega) ?_ fun D2 H2 hD2 s2 e2 => ?_
      · intro i x y hx hy H' s' Q' q
        obtain ⟨d, hd, tx⟩ := hA1.get hx
        have e := mapb_get hd hy
        subst e
        have hp : placeD d = true := List.all_eq_true.mp h d (List.mem_of_getElem? hd)
        walk_at "zd"
        cases tx with
        | str x => exact ⟨z, rfl, fun t H'' s'' hT => ⟨placesOf z, .inr hT, rfl, fl, q H'' s''⟩⟩
        | _ => cases hp
      refine allL (sq_of e2) (by rw [List.all_map]) ?_
      have s12 := s1.trans s2
      refine iteN (fun h2 => ?_) fun h2 => ?_
      · have h2 : ds.all (inPl z) = false := h2
        have e : nearD z (.tuple ds) = false := by show (ds.all placeD && (ds.all (inPl z) && _)) = false; rw [h2, Bool.false_and, Bool.and_false]
        have kk := k H2 s12
        rw [e] at kk
        exact kk
      have h2 : ds.all (inPl z) = true := h2
      have e : nearD z (.tuple ds) = decide (ds.map txtOf).Nodup := by show (ds.all placeD && (ds.all (inPl z) && _)) = _; rw [h, h2, Bool.true_and, Bool.true_and]
      rw [e] at k
      have hU : ∀ y ∈ ds.map txtOf, y ∈ (["n", "ne", "e", "se", "s", "sw", "w", "nw"] : List Str) := fun y hy => by
        obtain ⟨d, hd, rfl⟩ := List.mem_map.mp hy
        have hp : placeD d = true := List.all_eq_true.mp h d hd
        cases d with
        | str x =>
          show x ∈ _
          have hp : inV (.str x) placesV = true := hp
          unfold inV at hp
          obtain ⟨y, hy, e⟩ := List.any_eq_true.mp hp
          simp only [placesV, List.mem_cons, List.not_mem_nil, or_false] at hy
          have e : y = .str x := by
            rcases hy with rfl | rfl | rfl | rfl | rfl | rfl | rfl | rfl <;> exact congrArg V.str (of_decide_eq_true e)
          rcases hy with rfl | rfl | rfl | rfl | rfl | rfl | rfl | rfl <;> (cases e; simp)
        | _ => cases hp
      rw [ex] at hA
      have exs := thA_txt hA
      generalize ds.map txtOf = ks at ex hU exs k
      walk_at "zd"
      have hS2 : SqT K H2 a (ks.map V.str) := by rw [← exs]; exact Same.tup s12 hS
      refine ⟨ks, a, rfl, hS2, .inr ⟨_, hU, by unfold scanBound; decide⟩, fun p n hp => ⟨p, _, n, rfl, upd_same, fun l nd ln mm => ?_⟩⟩
      have sP := same_new (o := SetT P w p (fun k => decide (k ∈ ks)) n) hp
      refine ⟨ks.map V.str, .inr (Same.tup sP hS2), eqI ?_⟩
      have kk := k _ (s12.trans sP)
      rw [← nodup_len nd fun y => ⟨fun m => (mm y).mp (decide_eq_true m), fun m => of_decide_eq_true ((mm y).mpr m)⟩, ln] at kk
      rw [List.length_map]
      exact kk

/-! ### a rule's tests, of any thing -/
def soD (sg : Str) (d : PyData) : Bool := signsD d && madeOf sg d
def spSo (K : PySem.W.Frag) : Sp := fun vs H Q _ => ∃ v d, ∃ sg : Str, vs = [v, .str sg] ∧ Th K H v d ∧ Short d ∧ ∀ H', Same H H' → Q (.bl (soD sg d)) H'
theorem ok_so (T : Tx K mg) (c_is_signs : Cg P w K mg base CX0 2 "is_signs" (spOn K signsD)) (c_is_made_of : Cg P w K mg base CX0 1 "is_made_of" (spMade K)) (F : FunD K "_is_signs_of" "_is_signs_of" (defArgs s_is_signs_of) (defBody s_is_signs_of) (defScope s_is_signs_of) [] [] f fd) : FnG P w K mg base CX0 3 f fd ["thing", "signs"] (spSo K) := by
  refine FnG.of F sc_is_signs_of (fun vs H Q E h => ?_) (fun cdv A outer s H vs Q E hr gd h => ?_)
  · obtain ⟨v, d, sg, rfl, _⟩ := h
    rfl
  · obtain ⟨v, d, sg, rfl, hv, hz, k⟩ := h
    have hu : (A.deeper (envOfC "_is_signs_of" (defScope s_is_signs_of) s.heap.objs.size f cdv)).units + 64 < cLine := by have := hr.un; omega
    refine ⟨_, PSs.nox (pss_one
    (ps_ret (pz_and (pe_cg c_is_signs hr gd (by decide) (by rfl) pass0 (pa_cons (zv 0) pa_nil)) (pe_one (pe_cg c_is_made_of hr gd (by decide) (by rfl) pass0 (pa_cons (zv 0) (pa_cons (zv 1) pa_nil))))))), ?_⟩
    try dsimp only [cxOf, Cx.nox]
    show (tRet _) _ [some v, some (.str sg)] _
    walk_at "zd"
    refine ⟨v, d, rfl, hv, hz, fun H1 s1 => ?_⟩
    unfold soD at k
    cases q : signsD d with
    | false =>
      have kk := k H1 s1
      rw [q] at kk
      exact iteF kk
    | true => exact iteT ⟨v, d, sg, rfl, hv.mono s1, hz, fun H2 s2 => by
        have kk := k H2 (s1.trans s2)
        rw [q, Bool.true_and] at kk
        exact kk⟩
def inNs (ns : List Str) : PyData → Bool
  | .str x => inV (.str x) (ns.map V.str)
  | _ => false
def atD (ns : List Str) (sg : Str) (d e : PyData) : Bool := placeD d && (inNs ns d && soD sg e)
theorem flat_strs (ns : List Str) : (ns.map V.str).all flatV = true := by
  rw [List.all_eq_true]
  intro x m
  obtain ⟨y, _, rfl⟩ := List.mem_map.mp m
  rfl
def spAt (K : PySem.W.Frag) : Sp := fun vs H Q _ => ∃ (a nr : Addr) (sg : Str) (ns : List Str) (x0 x1 x2 : V) (d e : PyData), vs = [.ref a, .ref nr, .str sg] ∧ SqT K H a [x0, x1, x2] ∧ SqT K H nr (ns.map V.str) ∧ Th K H x1 d ∧ Th K H x2 e ∧ Short d ∧ Short e ∧ ∀ H', Same H H' → Q (.bl (atD ns sg d e)) H'
theorem ok_at (T : Tx K mg) (c_is_place : Cg P w K mg base CX0 1 "is_place" (spOn K placeD)) (c_is_signs_of : Cg P w K mg base CX0 3 "_is_signs_of" (spSo K)) (F : FunD K "_is_at" "_is_at" (defArgs s_is_at) (defBody s_is_at) (defScope s_is_at) [] [] f fd) : FnG P w K mg base CX0 4 f fd ["thing", "near", "signs"] (spAt K) := by
  refine FnG.of F sc_is_at (fun vs H Q E h => ?_) (fun cdv A outer s H vs Q E hr gd h => ?_)
  · obtain ⟨a, nr, sg, ns, x0, x1, x2, d, e, rfl, _⟩ := h
    rfl
  · obtain ⟨a, nr, sg, ns, x0, x1, x2, d, e, rfl, hS, hN, t1, t2, z1, z2, k⟩ := h
    have hu : (A.deeper (envOfC "_is_at" (defScope s_is_at) s.heap.objs.size f cdv)).units + 64 < cLine := by have := hr.un; omega
    refine ⟨_, PSs.nox (pss_cons
    (ps_asg (zv 0) (pg_tupK K 3 (pgs_cons (pg_name (i := 3) sc_is_at.nd rfl (Or.inl rfl)) (pgs_cons (pg_name (i := 4) sc_is_at.nd rfl (Or.inl rfl)) (pgs_cons (pg_name (i := 5) sc_is_at.nd rfl (Or.inl rfl)) pgs_nil)))))
    (pss_one
    (ps_ret (pz_and (pe_cg c_is_place hr gd (by decide) (by rfl) pass0 (pa_cons (zv 4) pa_nil)) (pz_and (pe_cmpR (op_inK K) (zv 4) (zv 1) (by with_unfolding_all rfl)) (pe_one (pe_cg c_is_signs_of hr gd (by decide) (by rfl) pass0 (pa_cons (zv 5) (pa_cons (zv 2) pa_nil))))))))), ?_⟩
    try dsimp only [cxOf, Cx.nox]
    show (tSeq _ _) _ [some (.ref a), some (.ref nr), some (.str sg), none, none, none] _
    walk_at "zd"
    refine ⟨a, [x0, x1, x2], rfl, hS, rfl, x0, [x1, x2], rfl, x1, [x2], rfl, x2, [], rfl, rfl, ?_⟩
    walk_at "zd"
    refine ⟨x1, d, rfl, t1, z1, fun H1 s1 => ?_⟩
    unfold atD at k
    cases q : placeD d with
    | false =>
      have kk := k H1 s1
      rw [q] at kk
      exact iteF kk
    | true =>
      refine iteT ?_
      rw [q, Bool.true_and] at k
      cases t1 with
      | str x =>
        refine ⟨ns.map V.str, .inr (Same.tup s1 hN), rfl, flat_strs ns, ?_⟩
        show if inV (.str x) (ns.map V.str) = true then _ else _
        cases q2 : inV (.str x) (ns.map V.str) with
        | false =>
          have kk := k H1 s1
          have e2 : inNs ns (.str x) = false := q2
          rw [e2] at kk
          exact iteF kk
        | true =>
          have e2 : inNs ns (.str x) = true := q2
          rw [e2, Bool.true_and] at k
          exact iteT ⟨x2, e, sg, rfl, t2.mono s1, z2, fun H2 s2 => k H2 (s1.trans s2)⟩
      | _ => cases q
def leD : PyData → PyData → Bool
  | .int i, .int j => decide (i ≤ j)
  | _, _ => false
def countD (sg : Str) (d e g : PyData) : Bool := fromD 0 8 d && (fromD 0 8 e && (leD d e && soD sg g))
def spCount (K : PySem.W.Frag) : Sp := fun vs H Q _ => ∃ (a : Addr) (sg : Str) (x0 x1 x2 x3 : V) (d e g : PyData), vs = [.ref a, .str sg] ∧ SqT K H a [x0, x1, x2, x3] ∧ Th K H x1 d ∧ Th K H x2 e ∧ Th K H x3 g ∧ Short g ∧ ∀ H', Same H H' → Q (.bl (countD sg d e g)) H'
theorem ok_count (T : Tx K mg) (c_is_from_to : Cg P w K mg base CX0 2 "is_from_to" (spFromD K)) (c_is_signs_of : Cg P w K mg base CX0 3 "_is_signs_of" (spSo K)) (F : FunD K "_is_count" "_is_count" (defArgs s_is_count) (defBody s_is_count) (defScope s_is_count) [] [] f fd) : FnG P w K mg base CX0 4 f fd ["thing", "signs"] (spCount K) := by
  refine FnG.of F sc_is_count (fun vs H Q E h => ?_) (fun cdv A outer s H vs Q E hr gd h => ?_)
  · obtain ⟨a, sg, x0, x1, x2, x3, d, e, g, rfl, _⟩ := h
    rfl
  · obtain ⟨a, sg, x0, x1, x2, x3, d, e, g, rfl, hS, t1, t2, t3, z3, k⟩ := h
    have hu : (A.deeper (envOfC "_is_count" (defScope s_is_count) s.heap.objs.size f cdv)).units + 64 < cLine := by have := hr.un; omega
    refine ⟨_, PSs.nox (pss_cons
    (ps_asg (zv 0) (pg_tupK K 4 (pgs_cons (pg_name (i := 2) sc_is_count.nd rfl (Or.inl rfl)) (pgs_cons (pg_name (i := 3) sc_is_count.nd rfl (Or.inl rfl)) (pgs_cons (pg_name (i := 4) sc_is_count.nd rfl (Or.inl rfl)) (pgs_cons (pg_name (i := 5) sc_is_count.nd rfl (Or.inl rfl)) pgs_nil))))))
    (pss_cons
    (ps_if (PW.pt (pw_or (pt_not (pz_val (pe_cg c_is_from_to hr gd (by decide) (by rfl) pass0 (pa_cons (zv 3) (pa_cons pe_int (pa_cons (C8.pe_gc (by rfl) T.c_MOST_AROUND) pa_nil)))))) (pw_or1 (pt_not (pz_val (pe_cg c_is_from_to hr gd (by decide) (by rfl) pass0 (pa_cons (zv 4) (pa_cons pe_int (pa_cons (C8.pe_gc (by rfl) T.c_MOST_AROUND) pa_nil)))))))))
      (pss_one
        (ps_ret pe_bl))
      pss_nil)
    (pss_one
    (ps_ret (pz_and (pe_cmpR op_leZ (zv 3) (zv 4) (nomark _)) (pe_one (pe_cg c_is_signs_of hr gd (by decide) (by rfl) pass0 (pa_cons (zv 5) (pa_cons (zv 1) pa_nil))))))))), ?_⟩
    try dsimp only [cxOf, Cx.nox]
    show (tSeq _ _) _ [some (.ref a), some (.str sg), none, none, none, none] _
    walk_at "zd"
    refine ⟨a, [x0, x1, x2, x3], rfl, hS, rfl, x0, [x1, x2, x3], rfl, x1, [x2, x3], rfl, x2, [x3], rfl, x3, [], rfl, rfl, ?_⟩
    walk_at "zd"
    unfold countD at k
    refine ⟨x1, d, 0, 8, rfl, t1, ?_⟩
    cases q : fromD 0 8 d with
    | false =>
      have kk := k H (Same.refl _)
      rw [q] at kk
      exact iteT kk
    | true =>
      rw [q, Bool.true_and] at k
      refine iteF ⟨x2, e, 0, 8, rfl, t2, ?_⟩
      cases q2 : fromD 0 8 e with
      | false =>
        have kk := k H (Same.refl _)
        rw [q2] at kk
        exact iteT kk
      | true =>
        rw [q2, Bool.true_and] at k
        refine iteF ?_
        cases t1 with
        | int i =>
          cases t2 with
          | int j =>
            walk_at "zd"
            refine leI ?_
            have e2 : leD (.int i) (.int j) = decide (i ≤ j) := rfl
            rw [e2] at k
            cases q3 : decide (i ≤ j) with
            | false =>
              have kk := k H (Same.refl _)
              rw [q3] at kk
              exact iteF kk
            | true =>
              rw [q3, Bool.true_and] at k
              exact iteT ⟨x3, g, sg, rfl, t3, z3, k⟩
          | _ => cases q2
        | _ => cases q

/-! ### a test, of any thing -/
def testD (ns : List Str) (sg : Str) : PyData → Bool
  | .tuple [.str x, d, e] => decide (x = "at") && atD ns sg d e
  | .tuple [.str x, d, e, g] => decide (x = "count") && countD sg d e g
  | _ => false
def spTest (K : PySem.W.Frag) : Sp := fun vs H Q _ => ∃ (v : V) (nr : Addr) (sg : Str) (ns : List Str) (d : PyData), vs = [v, .ref nr, .str sg] ∧ Th K H v d ∧ Short d ∧ SqT K H nr (ns.map V.str) ∧ ∀ H', Same H H' → Q (.bl (testD ns sg d)) H'
theorem ok_test (T : Tx K mg) (c_is_at : Cg P w K mg base CX0 4 "_is_at" (spAt K)) (c_is_count : Cg P w K mg base CX0 4 "_is_count" (spCount K)) (F : FunD K "_is_test" "_is_test" (defArgs s_is_test) (defBody s_is_test) (defScope s_is_test) [] [] f fd) : FnG P w K mg base CX0 5 f fd ["thing", "near", "signs"] (spTest K) := by
  refine FnG.of F sc_is_test (fun vs H Q E h => ?_) (fun cdv A outer s H vs Q E hr gd h => ?_)
  · obtain ⟨v, nr, sg, ns, d, rfl, _⟩ := h
    rfl
  · obtain ⟨v, nr, sg, ns, d, rfl, hv, hz, hN, k⟩ := h
    have hu : (A.deeper (envOfC "_is_test" (defScope s_is_test) s.heap.objs.size f cdv)).units + 64 < cLine := by have := hr.un; omega
    refine ⟨_, PSs.nox (pss_cons
    (ps_if (PW.pt (pw_or (pt_not (pz_val (pe_callB (call_isiK K) (by rfl) T.isinstance (by decide +kernel) (pa_cons (zv 0) (pa_cons (pe_bltn (v := .ty "tuple") (by rfl) T.tuple (by decide +kernel) rfl) pa_nil))))) (pw_or (pz_cmp op_ltZ (pe_callB (call_lenK K) (by rfl) T.len (by decide +kernel) (pa_cons (zv 0) pa_nil)) pe_int (nomark _)) (pw_or1 (pt_not (pz_val (pe_callB (call_isiK K) (by rfl) T.isinstance (by decide +kernel) (pa_cons (pe_ix (ix_K K) (zv 0) pe_int (fun _ _ => rfl)) (pa_cons (pe_bltn (v := .ty "str") (by rfl) T.str (by decide +kernel) rfl) pa_nil)))))))))
      (pss_one
        (ps_ret pe_bl))
      pss_nil)
    (pss_cons
    (ps_if (PW.pt (pw_and (pz_cmp (op_eqK K hu) (pe_ix (ix_K K) (zv 0) pe_int (fun _ _ => rfl)) pe_str (nomark _)) (pw_and1 (pz_cmp (op_eqK K hu) (pe_callB (call_lenK K) (by rfl) T.len (by decide +kernel) (pa_cons (zv 0) pa_nil)) pe_int (nomark _)))))
      (pss_one
        (ps_ret (pe_cg c_is_at hr gd (by decide) (by rfl) pass0 (pa_cons (zv 0) (pa_cons (zv 1) (pa_cons (zv 2) pa_nil))))))
      pss_nil)
    (pss_one
    (ps_ret (pz_and (pe_cmpR (op_eqK K hu) (pe_ix (ix_K K) (zv 0) pe_int (fun _ _ => rfl)) pe_str (nomark _)) (pz_and (pe_cmpR (op_eqK K hu) (pe_callB (call_lenK K) (by rfl) T.len (by decide +kernel) (pa_cons (zv 0) pa_nil)) pe_int (nomark _)) (pe_one (pe_cg c_is_count hr gd (by decide) (by rfl) pass0 (pa_cons (zv 0) (pa_cons (zv 2) pa_nil)))))))))), ?_⟩
    try dsimp only [cxOf, Cx.nox]
    show (tSeq _ _) _ [some v, some (.ref nr), some (.str sg)] _
    have kk := k H (Same.refl H)
    walk_at "zd"
    refine isi_tup hv ?_
    cases ht : isTup d with
    | false =>
      have e : testD ns sg d = false := by cases d <;> first | rfl | cases ht
      rw [e] at kk
      exact iteT kk
    | true =>
      refine iteF ?_
      obtain ⟨a, xs, ds, rfl, rfl, hS, hA⟩ := th_tup hv ht
      have hw : PyData.weightAll ds ≤ 20000 := by
        have h : PyData.weight (.tuple ds) ≤ 20000 := hz
        simpa only [PyData.weight] using h
      have wt : ∀ d ∈ ds, Short d := fun d m => Nat.le_trans (mem_wt m) hw
      walk_at "zd"
      refine ⟨xs, .inr hS, ltI ?_⟩
      have hl := hA.len
      match ds, xs, hA, hl with
      | [], [], _, _ => exact iteT (iteT kk)
      | [d0], [x0], _, _ =>
        have e : testD ns sg (.tuple [d0]) = false := by cases d0 <;> rfl
        rw [e] at kk
        exact iteT (iteT kk)
      | [d0, d1], [x0, x1], _, _ =>
        have e : testD ns sg (.tuple [d0, d1]) = false := by cases d0 <;> rfl
        rw [e] at kk
        exact iteT (iteT kk)
      | d0 :: d1 :: d2 :: rest, x0 :: x1 :: x2 :: xr, .cons t0 (.cons t1 (.cons t2 tr)), hl =>
        have ge : decide (((x0 :: x1 :: x2 :: xr).length : Int) < 3) = false := decide_eq_false (by simp only [List.length_cons]; omega)
        rw [ge]
        refine iteF (ixT (i := 0) hS (atI_nat (j := 0) rfl) (isi_str t0 ?_))
        cases hs : isStr d0 with
        | false =>
          have e : testD ns sg (.tuple (d0 :: d1 :: d2 :: rest)) = false := by
            cases d0 with
            | str x => cases hs
            | _ => match rest with
              | [] => rfl
              | [_] => rfl
              | _ :: _ :: _ => rfl
          rw [e] at kk
          exact iteT kk
        | true =>
          obtain ⟨x, rfl, rfl⟩ := th_str t0 hs
          refine iteF ?_
          walk_at "zd"
          have w1 := wt d1 (by simp)
          have w2 := wt d2 (by simp)
          have at0 : atI (V.str x :: x1 :: x2 :: xr) 0 = some (V.str x) := atI_nat (j := 0) rfl
          refine ixT (i := 0) hS at0 (eqS ?_)
          match rest, xr, tr, hl with
          | [], [], _, _ =>
            have e0 : testD ns sg (.tuple [.str x, d1, d2]) = (decide (x = "at") && atD ns sg d1 d2) := rfl
            rw [e0] at k kk
            refine iteD (fun e => ?_) fun e => ?_
            · rw [decide_eq_true e, Bool.true_and] at k
              refine ⟨_, .inr hS, eqI (iteT ?_)⟩
              exact ⟨a, nr, sg, ns, .str x, x1, x2, d1, d2, rfl, hS, hN, t1, t2, w1, w2, k⟩
            · rw [decide_eq_false e, Bool.false_and] at kk
              refine iteF (ixT (i := 0) hS at0 (eqS (iteD (fun _ => ?_) fun _ => kk)))
              exact ⟨_, .inr hS, eqI (iteF kk)⟩
          | [g], [x3], .cons t3 .nil, _ =>
            have w3 := wt g (by simp)
            have e0 : testD ns sg (.tuple [.str x, d1, d2, g]) = (decide (x = "count") && countD sg d1 d2 g) := rfl
            rw [e0] at k kk
            have rest : rIxZ K (.ref a) (.int 0) H fun x H1 => rEqZ K id x (.str "count") H1 fun x H1 => onB x fun k => if k = true then rLenZ K [.ref a] H1 fun x H1 => rEqZ K id x (.int 4) H1 fun x H1 => onB x fun k => if k = true then spCount K [.ref a, .str sg] H1 Q E0 else Q (.bl false) H1 else Q (.bl false) H1 := by
              refine ixT (i := 0) hS at0 (eqS (iteD (fun e => ?_) fun e => ?_))
              · rw [decide_eq_true e, Bool.true_and] at k
                refine ⟨_, .inr hS, eqI (iteT ?_)⟩
                exact ⟨a, sg, .str x, x1, x2, x3, d1, d2, g, rfl, hS, t1, t2, t3, w3, k⟩
              · rw [decide_eq_false e, Bool.false_and] at kk
                exact kk
            refine iteD (fun e => ?_) fun e => ?_
            · exact ⟨_, .inr hS, eqI (iteF rest)⟩
            · exact iteF rest
          | g :: g2 :: more, x3 :: x4 :: xm, _, hl =>
            have e0 : testD ns sg (.tuple (.str x :: d1 :: d2 :: g :: g2 :: more)) = false := rfl
            rw [e0] at kk
            have n3 : decide (((V.str x :: x1 :: x2 :: x3 :: x4 :: xm).length : Int) = 3) = false := decide_eq_false (by simp only [List.length_cons]; omega)
            have n4 : decide (((V.str x :: x1 :: x2 :: x3 :: x4 :: xm).length : Int) = 4) = false := decide_eq_false (by simp only [List.length_cons]; omega)
            have rest : rIxZ K (.ref a) (.int 0) H fun x H1 => rEqZ K id x (.str "count") H1 fun x H1 => onB x fun k => if k = true then rLenZ K [.ref a] H1 fun x H1 => rEqZ K id x (.int 4) H1 fun x H1 => onB x fun k => if k = true then spCount K [.ref a, .str sg] H1 Q E0 else Q (.bl false) H1 else Q (.bl false) H1 := by
              refine ixT (i := 0) hS at0 (eqS (iteD (fun e => ?_) fun e => kk))
              refine ⟨_, .inr hS, eqI ?_⟩
              rw [n4]
              exact iteF kk
            refine iteD (fun e => ?_) fun e => ?_
            · refine ⟨_, .inr hS, eqI ?_⟩
              rw [n3]
              exact iteF rest
            · exact iteF rest
/-! ### rows, of any thing -/
def textD (sg : Str) (n : Int) (d : PyData) : Bool := madeOf sg d && decide ((dlen d : Int) = n)
def testsD (ns : List Str) (sg : Str) : PyData → Bool
  | .tuple ts => decide ((ts.length : Int) ≤ 8) && ts.all (testD ns sg)
  | _ => false
def cellD (ns : List Str) (sg : Str) : PyData → Bool
  | .tuple [d, e, g] => soD sg d && (textD sg 1 g && testsD ns sg e)
  | _ => false
def spCell (K : PySem.W.Frag) : Sp := fun vs H Q _ => ∃ (v : V) (nr : Addr) (sg : Str) (ns : List Str) (d : PyData), vs = [v, .ref nr, .str sg] ∧ Th K H v d ∧ Short d ∧ SqT K H nr (ns.map V.str) ∧ ∀ H', Same H H' → Q (.bl (cellD ns sg d)) H'
theorem ok_cell (T : Tx K mg) (c_is_signs_of : Cg P w K mg base CX0 3 "_is_signs_of" (spSo K)) (c_is_text_of : Cg P w K mg base CX0 2 "is_text_of" (spText K)) (c_is_test : Cg P w K mg base CX0 5 "_is_test" (spTest K)) (F : FunD K "_is_cell_row" "_is_cell_row" (defArgs s_is_cell_row) (defBody s_is_cell_row) (defScope s_is_cell_row) [] [] f fd) : FnG P w K mg base CX0 6 f fd ["thing", "near", "signs"] (spCell K) := by
  refine FnG.of F sc_is_cell_row (fun vs H Q E h => ?_) (fun cdv A outer s H vs Q E hr gd h => ?_)
  · obtain ⟨v, nr, sg, ns, d, rfl, _⟩ := h
    rfl
  · obtain ⟨v, nr, sg, ns, d, rfl, hv, hz, hN, k⟩ := h
    have hu : (A.deeper (envOfC "_is_cell_row" (defScope s_is_cell_row) s.heap.objs.size f cdv)).units + 64 < cLine := by have := hr.un; omega
    refine ⟨_, PSs.nox (pss_cons
    (ps_if (PW.pt (pw_or (pt_not (pz_val (pe_callB (call_isiK K) (by rfl) T.isinstance (by decide +kernel) (pa_cons (zv 0) (pa_cons (pe_bltn (v := .ty "tuple") (by rfl) T.tuple (by decide +kernel) rfl) pa_nil))))) (pw_or1 (pz_cmp (op_neK K hu) (pe_callB (call_lenK K) (by rfl) T.len (by decide +kernel) (pa_cons (zv 0) pa_nil)) pe_int (nomark _)))))
      (pss_one
        (ps_ret pe_bl))
      pss_nil)
    (pss_cons
    (ps_asg (zv 0) (pg_tupK K 3 (pgs_cons (pg_name (i := 3) sc_is_cell_row.nd rfl (Or.inl rfl)) (pgs_cons (pg_name (i := 4) sc_is_cell_row.nd rfl (Or.inl rfl)) (pgs_cons (pg_name (i := 5) sc_is_cell_row.nd rfl (Or.inl rfl)) pgs_nil)))))
    (pss_cons
    (ps_if (PW.pt (pw_or (pt_not (pz_val (pe_cg c_is_signs_of hr gd (by decide) (by rfl) pass0 (pa_cons (zv 3) (pa_cons (zv 2) pa_nil))))) (pw_or1 (pt_not (pz_val (pe_cg c_is_text_of hr gd (by decide) (by rfl) pass0 (pa_cons (zv 5) (pa_cons (zv 2) (pa_cons pe_int pa_nil)))))))))
      (pss_one
        (ps_ret pe_bl))
      pss_nil)
    (pss_cons
    (ps_if (PW.pt (pw_or (pt_not (pz_val (pe_callB (call_isiK K) (by rfl) T.isinstance (by decide +kernel) (pa_cons (zv 4) (pa_cons (pe_bltn (v := .ty "tuple") (by rfl) T.tuple (by decide +kernel) rfl) pa_nil))))) (pw_or1 (pz_cmp op_gtZ (pe_callB (call_lenK K) (by rfl) T.len (by decide +kernel) (pa_cons (zv 4) pa_nil)) (C8.pe_gc (by rfl) T.c_MOST_TESTS) (nomark _)))))
      (pss_one
        (ps_ret pe_bl))
      pss_nil)
    (pss_one
    (ps_ret (pe_callB (call_allK K) (by rfl) T.all (by decide +kernel) (pa_cons (pe_lc (own := [("test", 6)]) rfl sc_is_cell_row.nd (pi_tupK K (zv 4)) (blkOk_by (by kernel_rfl)) (fun _ _ _ _ _ => (pg_name (i := 6) sc_is_cell_row.nd rfl (Or.inl rfl))) (fun _ _ _ _ _ => pts_nil) (fun _ _ _ _ _ => (pe_cg c_is_test hr gd (by decide) (by rfl) pass0 (pa_cons (zv 6) (pa_cons (zv 1) (pa_cons (zv 2) pa_nil)))))) pa_nil)))))))), ?_⟩
    try dsimp only [cxOf, Cx.nox]
    show (tSeq _ _) _ [some v, some (.ref nr), some (.str sg), none, none, none, none] _
    have kk := k H (Same.refl H)
    walk_at "zd"
    refine isi_tup hv ?_
    cases ht : isTup d with
    | false =>
      have e : cellD ns sg d = false := by cases d <;> first | rfl | cases ht
      rw [e] at kk
      exact iteT kk
    | true =>
      refine iteF ?_
      obtain ⟨a, xs, ds, rfl, rfl, hS, hA⟩ := th_tup hv ht
      have hw : PyData.weightAll ds ≤ 20000 := by
        have h : PyData.weight (.tuple ds) ≤ 20000 := hz
        simpa only [PyData.weight] using h
      have wt : ∀ d ∈ ds, Short d := fun d m => Nat.le_trans (mem_wt m) hw
      have hl := hA.len
      walk_at "zd"
      refine ⟨xs, .inr hS, eqI ?_⟩
      by_cases h3 : ds.length = 3
      · obtain ⟨d, e, g, rfl⟩ : ∃ d e g, ds = [d, e, g] := by
          match ds, h3 with
          | [d, e, g], _ => exact ⟨d, e, g, rfl⟩
        obtain ⟨x1, x2, x3, rfl⟩ : ∃ x1 x2 x3, xs = [x1, x2, x3] := by
          match xs, hl with
          | [x1, x2, x3], _ => exact ⟨x1, x2, x3, rfl⟩
        cases hA with
        | cons t1 hA => cases hA with
          | cons t2 hA => cases hA with
            | cons t3 hA =>
              have w1 := wt d (by simp)
              have w2 := wt e (by simp)
              have w3 := wt g (by simp)
              have l3 : decide ((([x1, x2, x3] : List V).length : Int) = 3) = true := decide_eq_true rfl
              refine iteN (fun z => by rw [l3] at z; cases z) fun _ => ?_
              refine ⟨a, [x1, x2, x3], rfl, hS, rfl, x1, [x2, x3], rfl, x2, [x3], rfl, x3, [], rfl, rfl, ?_⟩
              walk_at "zd"
              have e0 : cellD ns sg (.tuple [d, e, g]) = (soD sg d && (textD sg 1 g && testsD ns sg e)) := rfl
              rw [e0] at k
              refine ⟨x1, d, sg, rfl, t1, w1, fun H1 s1 => ?_⟩
              cases q1 : soD sg d with
              | false =>
                have kk := k H1 s1
                rw [q1] at kk
                exact iteT kk
              | true =>
                rw [q1, Bool.true_and] at k
                refine iteF ⟨x3, g, sg, 1, rfl, t3.mono s1, w3, fun H2 s2 => ?_⟩
                have s12 := s1.trans s2
                cases q2 : textD sg 1 g with
                | false =>
                  have kk := k H2 s12
                  rw [q2] at kk
                  have q2 : (madeOf sg g && decide ((dlen g : Int) = 1)) = false := q2
                  rw [q2]
                  exact iteT kk
                | true =>
                  rw [q2, Bool.true_and] at k
                  have q2 : (madeOf sg g && decide ((dlen g : Int) = 1)) = true := q2
                  rw [q2]
                  refine iteF ?_
                  walk_at "zd"
                  have t2' := t2.mono s12
                  refine isi_tup t2' ?_
                  cases hte : isTup e with
                  | false =>
                    have e1 : testsD ns sg e = false := by cases e <;> first | rfl | cases hte
                    have kk := k H2 s12
                    rw [e1] at kk
                    exact iteT kk
                  | true =>
                    refine iteF ?_
                    obtain ⟨b, ys, es, rfl, rfl, hB, hE⟩ := th_tup t2' hte
                    have hwe : PyData.weightAll es ≤ 20000 := by
                      have h : PyData.weight (.tuple es) ≤ 20000 := w2
                      simpa only [PyData.weight] using h
                    have hle := hE.len
                    walk_at "zd"
                    refine ⟨ys, .inr hB, gtI ?_⟩
                    have e1 : testsD ns sg (.tuple es) = (decide ((es.length : Int) ≤ 8) && es.all (testD ns sg)) := rfl
                    rw [e1] at k
                    refine iteD (fun h8 => ?_) fun h8 => ?_
                    · have kk := k H2 s12
                      rw [decide_eq_false (by omega), Bool.false_and] at kk
                      exact kk
                    · have l8 : (es.length : Int) ≤ 8 := by omega
                      rw [decide_eq_true l8, Bool.true_and] at k
                      walk_at "zd"
                      refine comp_tupL (K := K) ((es.map (testD ns sg)).map V.bl) hB (fun R r => r) (by rw [List.length_map, List.length_map, hle]) (by omega) ?_ fun D H3 hD s3 e3 => ?_
                      · intro i x y hx hy H' s' Q' q
                        obtain ⟨d, hd, tx⟩ := hE.get hx
                        have e := mapb_get hd hy
                        subst e
                        walk_at "zd"
                        exact ⟨x, nr, sg, ns, d, rfl, tx.mono s', Nat.le_trans (mem_wt (List.mem_of_getElem? hd)) hwe, Same.tup (s12.trans s') hN, fun H'' s'' => q H'' s''⟩
                      · exact allL (sq_of e3) (by rw [List.all_map]; rfl) (k H3 (s12.trans s3))
      · have e : cellD ns sg (.tuple ds) = false := by
          match ds, h3 with
          | [], _ => rfl
          | [_], _ => rfl
          | [_, _], _ => rfl
          | _ :: _ :: _ :: _ :: _, _ => rfl
        rw [e] at kk
        refine iteN (fun _ => kk) fun z => absurd (of_decide_eq_true z) (by omega)

/-! ### a block's row, of any thing -/
def foursD (sg : Str) : PyData → Bool
  | .tuple ts => decide ((ts.length : Int) = 4) && ts.all (soD sg)
  | _ => false
def blockD (sg : Str) : PyData → Bool
  | .tuple [d, e] => foursD sg d && textD sg 4 e
  | _ => false
def spBlock (K : PySem.W.Frag) : Sp := fun vs H Q _ => ∃ (v : V) (sg : Str) (d : PyData), vs = [v, .str sg] ∧ Th K H v d ∧ Short d ∧ ∀ H', Same H H' → Q (.bl (blockD sg d)) H'
theorem ok_block (T : Tx K mg) (c_is_signs_of : Cg P w K mg base CX0 3 "_is_signs_of" (spSo K)) (c_is_text_of : Cg P w K mg base CX0 2 "is_text_of" (spText K)) (F : FunD K "_is_block_row" "_is_block_row" (defArgs s_is_block_row) (defBody s_is_block_row) (defScope s_is_block_row) [] [] f fd) : FnG P w K mg base CX0 4 f fd ["thing", "signs"] (spBlock K) := by
  refine FnG.of F sc_is_block_row (fun vs H Q E h => ?_) (fun cdv A outer s H vs Q E hr gd h => ?_)
  · obtain ⟨v, sg, d, rfl, _⟩ := h
    rfl
  · obtain ⟨v, sg, d, rfl, hv, hz, k⟩ := h
    have hu : (A.deeper (envOfC "_is_block_row" (defScope s_is_block_row) s.heap.objs.size f cdv)).units + 64 < cLine := by have := hr.un; omega
    refine ⟨_, PSs.nox (pss_cons
    (ps_if (PW.pt (pw_or (pt_not (pz_val (pe_callB (call_isiK K) (by rfl) T.isinstance (by decide +kernel) (pa_cons (zv 0) (pa_cons (pe_bltn (v := .ty "tuple") (by rfl) T.tuple (by decide +kernel) rfl) pa_nil))))) (pw_or1 (pz_cmp (op_neK K hu) (pe_callB (call_lenK K) (by rfl) T.len (by decide +kernel) (pa_cons (zv 0) pa_nil)) pe_int (nomark _)))))
      (pss_one
        (ps_ret pe_bl))
      pss_nil)
    (pss_cons
    (ps_asg (zv 0) (pg_tupK K 2 (pgs_cons (pg_name (i := 2) sc_is_block_row.nd rfl (Or.inl rfl)) (pgs_cons (pg_name (i := 3) sc_is_block_row.nd rfl (Or.inl rfl)) pgs_nil))))
    (pss_cons
    (ps_if (PW.pt (pw_or (pt_not (pz_val (pe_callB (call_isiK K) (by rfl) T.isinstance (by decide +kernel) (pa_cons (zv 2) (pa_cons (pe_bltn (v := .ty "tuple") (by rfl) T.tuple (by decide +kernel) rfl) pa_nil))))) (pw_or1 (pz_cmp (op_neK K hu) (pe_callB (call_lenK K) (by rfl) T.len (by decide +kernel) (pa_cons (zv 2) pa_nil)) pe_int (nomark _)))))
      (pss_one
        (ps_ret pe_bl))
      pss_nil)
    (pss_one
    (ps_ret (pz_and (pe_callB (call_allK K) (by rfl) T.all (by decide +kernel) (pa_cons (pe_lc (own := [("held", 4)]) rfl sc_is_block_row.nd (pi_tupK K (zv 2)) (blkOk_by (by kernel_rfl)) (fun _ _ _ _ _ => (pg_name (i := 4) sc_is_block_row.nd rfl (Or.inl rfl))) (fun _ _ _ _ _ => pts_nil) (fun _ _ _ _ _ => (pe_cg c_is_signs_of hr gd (by decide) (by rfl) pass0 (pa_cons (zv 4) (pa_cons (zv 1) pa_nil))))) pa_nil)) (pe_one (pe_cg c_is_text_of hr gd (by decide) (by rfl) pass0 (pa_cons (zv 3) (pa_cons (zv 1) (pa_cons pe_int pa_nil))))))))))), ?_⟩
    try dsimp only [cxOf, Cx.nox]
    show (tSeq _ _) _ [some v, some (.str sg), none, none, none] _
    have kk := k H (Same.refl H)
    walk_at "zd"
    refine isi_tup hv ?_
    cases ht : isTup d with
    | false =>
      have e : blockD sg d = false := by cases d <;> first | rfl | cases ht
      rw [e] at kk
      exact iteT kk
    | true =>
      refine iteF ?_
      obtain ⟨a, xs, ds, rfl, rfl, hS, hA⟩ := th_tup hv ht
      have hw : PyData.weightAll ds ≤ 20000 := by
        have h : PyData.weight (.tuple ds) ≤ 20000 := hz
        simpa only [PyData.weight] using h
      have wt : ∀ d ∈ ds, Short d := fun d m => Nat.le_trans (mem_wt m) hw
      have hl := hA.len
      walk_at "zd"
      refine ⟨xs, .inr hS, eqI ?_⟩
      by_cases h2 : ds.length = 2
      · obtain ⟨d, e, rfl⟩ : ∃ d e, ds = [d, e] := by
          match ds, h2 with
          | [d, e], _ => exact ⟨d, e, rfl⟩
        obtain ⟨x1, x2, rfl⟩ : ∃ x1 x2, xs = [x1, x2] := by
          match xs, hl with
          | [x1, x2], _ => exact ⟨x1, x2, rfl⟩
        cases hA with
        | cons t1 hA => cases hA with
          | cons t2 hA =>
            have w1 := wt d (by simp)
            have w2 := wt e (by simp)
            have l2 : decide ((([x1, x2] : List V).length : Int) = 2) = true := decide_eq_true rfl
            refine iteN (fun z => by rw [l2] at z; cases z) fun _ => ?_
            refine ⟨a, [x1, x2], rfl, hS, rfl, x1, [x2], rfl, x2, [], rfl, rfl, ?_⟩
            walk_at "zd"
            have e0 : blockD sg (.tuple [d, e]) = (foursD sg d && textD sg 4 e) := rfl
            rw [e0] at k kk
            refine isi_tup t1 ?_
            cases htd : isTup d with
            | false =>
              have e1 : foursD sg d = false := by cases d <;> first | rfl | cases htd
              rw [e1, Bool.false_and] at kk
              exact iteT kk
            | true =>
              refine iteF ?_
              obtain ⟨b, ys, es, rfl, rfl, hB, hE⟩ := th_tup t1 htd
              have hwe : PyData.weightAll es ≤ 20000 := by
                have h : PyData.weight (.tuple es) ≤ 20000 := w1
                simpa only [PyData.weight] using h
              have hle := hE.len
              have hwl := len_wt es
              walk_at "zd"
              refine ⟨ys, .inr hB, eqI ?_⟩
              have e1 : foursD sg (.tuple es) = (decide ((es.length : Int) = 4) && es.all (soD sg)) := rfl
              rw [e1] at k kk
              rw [hle]
              refine iteN (fun h4 => ?_) fun h4 => ?_
              · rw [h4, Bool.false_and, Bool.false_and] at kk
                exact kk
              · rw [h4, Bool.true_and] at k
                walk_at "zd"
                refine comp_tupL (K := K) ((es.map (soD sg)).map V.bl) hB (fun R r => r) (by rw [List.length_map, List.length_map, hle]) (by omega) ?_ fun D H3 hD s3 e3 => ?_
                · intro i x y hx hy H' s' Q' q
                  obtain ⟨d, hd, tx⟩ := hE.get hx
                  have e := mapb_get hd hy
                  subst e
                  walk_at "zd"
                  exact ⟨x, d, sg, rfl, tx.mono s', Nat.le_trans (mem_wt (List.mem_of_getElem? hd)) hwe, fun H'' s'' => q H'' s''⟩
                · refine allL (b := es.all (soD sg)) (sq_of e3) (by rw [List.all_map]; rfl) ?_
                  cases q1 : es.all (soD sg) with
                  | false =>
                    have kk := k H3 s3
                    rw [q1, Bool.false_and] at kk
                    exact iteF kk
                  | true =>
                    rw [q1, Bool.true_and] at k
                    exact iteT ⟨x2, e, sg, 4, rfl, t2.mono s3, w2, fun H4 s4 => k H4 (s3.trans s4)⟩
      · have e : blockD sg (.tuple ds) = false := by
          match ds, h2 with
          | [], _ => rfl
          | [_], _ => rfl
          | _ :: _ :: _ :: _, _ => rfl
        rw [e] at kk
        refine iteN (fun _ => kk) fun z => absurd (of_decide_eq_true z) (by omega)

/-! ### rules -/
theorem fldV {K : PySem.W.Frag} {mg : Str → Option Value} {x : Str} {ns : List Str} (O : OwnC K mg x ns) {a dx : Addr} {fs : List (Str × V)} {f : Str} {v : V} {H : Hp} {Q : VK} {σ : L2.St} {i : Nat} (e : H a = some (.ins (He.ga K x) dx fs)) (hf : f ∈ ns) (l : fs.lookup f = some v) (hσ : σ[i]? = some (some (.ref a))) (q : Q v H) : tFld K (zVar i) f σ H Q := by
  show zVar i σ H _
  unfold zVar
  rw [hσ]
  exact fldO O e hf l q
/-- a rule at a: its sort, how many signs, its near places, its rows -/
structure RuleAt (K : PySem.W.Frag) (H : Hp) (a : Addr) (so : Str) (m : Int) (nr rw : Addr) : Prop where
  ex : ∃ dx fs, H a = some (.ins (He.ga K "Rule") dx fs) ∧ fs.lookup ("_sort" : Str) = some (V.str so) ∧ fs.lookup ("_many" : Str) = some (V.int m) ∧ fs.lookup ("_near" : Str) = some (V.ref nr) ∧ fs.lookup ("_rows" : Str) = some (V.ref rw) ∧ ∀ q : Str, q ∉ (["_sort", "_many", "_near", "_rows"] : List Str) → fs.lookup q = none
theorem RuleAt.same {K : PySem.W.Frag} {H H' : Hp} {a : Addr} {so : Str} {m : Int} {nr rw : Addr} (r : RuleAt K H a so m nr rw) (s : Same H H') : RuleAt K H' a so m nr rw := by
  obtain ⟨dx, fs, e, l⟩ := r.ex
  exact ⟨dx, fs, s _ _ e, l⟩

def sgOf (m : Int) : Str := Txt.slice sgA none (some m)
def spSigns (K : PySem.W.Frag) : Sp := fun vs H Q _ => ∃ a so m nr rw, vs = [.ref a] ∧ RuleAt K H a so m nr rw ∧ Q (.str (sgOf m)) H
theorem ok_signsOf (T : Tx K mg) (F : FunD K "signs" "Rule.signs" (defArgs s_Rule_signs) (defBody s_Rule_signs) (defScope s_Rule_signs) [] [] f fd) : FnG P w K mg base CX0 1 f fd ["self"] (spSigns K) := by
  refine FnG.of F sc_Rule_signs (fun vs H Q E h => ?_) (fun cdv A outer s H vs Q E hr gd h => ?_)
  · obtain ⟨a, so, m, nr, rw, rfl, _⟩ := h
    rfl
  · obtain ⟨a, so, m, nr, rw, rfl, r, k⟩ := h
    obtain ⟨dx, fs, e, l1, l2, l3, l4, _⟩ := r.ex
    have hu : (A.deeper (envOfC "Rule.signs" (defScope s_Rule_signs) s.heap.objs.size f cdv)).units + 64 < cLine := by have := hr.un; omega
    refine ⟨_, PSs.nox (pss_one
    (ps_ret (pe_slice (sl_K K) (C8.pe_gc (by rfl) T.c_SIGNS) po_none (po_some (pe_fldK K (zv 0)))))), ?_⟩
    try dsimp only [cxOf, Cx.nox]
    show (tRet _) _ [some (.ref a)] _
    walk_at "zd"
    exact fldV T.o_Rule e (by decide) l2 rfl ⟨m, rfl, ⟨by decide, k⟩⟩
/-- self.m() -/
theorem methV {K : PySem.W.Frag} {a : Addr} {so : Str} {m : Int} {nr rw : Addr} {H : Hp} {Q : VK} {σ : L2.St} {i : Nat} {x : Str} {sp : Sp} {E : XK} {t : TA} (r : RuleAt K H a so m nr rw) (hx : x ∉ (["_sort", "_many", "_near", "_rows"] : List Str)) (hσ : σ[i]? = some (some (.ref a))) (q : t σ H fun vs H2 => sp (.ref a :: (vs ++ [])) H2 Q E) :
    tMeth (He.ga K "Rule") x sp [] E (zVar i) t σ H Q := by
  obtain ⟨dx, fs, e, _, _, _, _, l⟩ := r.ex
  show zVar i σ H _
  unfold zVar
  rw [hσ]
  exact ⟨a, dx, fs, rfl, e, l x hx, q⟩
def rowD (so : Str) (ns : List Str) (sg : Str) (d : PyData) : Bool := if so = "blocks" then blockD sg d else cellD ns sg d
def spIsRow (K : PySem.W.Frag) : Sp := fun vs H Q _ => ∃ a so m nr rw v d, ∃ ns : List Str, vs = [.ref a, v] ∧ RuleAt K H a so m nr rw ∧ SqT K H nr (ns.map V.str) ∧ Th K H v d ∧ Short d ∧ ∀ H', Same H H' → Q (.bl (rowD so ns (sgOf m) d)) H'
theorem ok_isRow (T : Tx K mg) (c_Rule_signs : Cm P w K mg base CX0 1 (He.ga K "Rule") "signs" (spSigns K)) (c_is_block_row : Cg P w K mg base CX0 4 "_is_block_row" (spBlock K)) (c_is_cell_row : Cg P w K mg base CX0 6 "_is_cell_row" (spCell K)) (F : FunD K "_is_row" "Rule._is_row" (defArgs s_Rule_is_row) (defBody s_Rule_is_row) (defScope s_Rule_is_row) [] [] f fd) : FnG P w K mg base CX0 7 f fd ["self", "row"] (spIsRow K) := by
  refine FnG.of F sc_Rule_is_row (fun vs H Q E h => ?_) (fun cdv A outer s H vs Q E hr gd h => ?_)
  · obtain ⟨a, so, m, nr, rw, v, d, ns, rfl, _⟩ := h
    rfl
  · obtain ⟨a, so, m, nr, rw, v, d, ns, rfl, r, hN, hv, hz, k⟩ := h
    obtain ⟨dx, fs, e, l1, l2, l3, l4, _⟩ := r.ex
    have hu : (A.deeper (envOfC "Rule._is_row" (defScope s_Rule_is_row) s.heap.objs.size f cdv)).units + 64 < cLine := by have := hr.un; omega
    refine ⟨_, PSs.nox (pss_cons
    (ps_if (pz_cmp (op_eqK K hu) (pe_fldK K (zv 0)) pe_str (nomark _))
      (pss_one
        (ps_ret (pe_cg c_is_block_row hr gd (by decide) (by rfl) pass0 (pa_cons (zv 1) (pa_cons (pe_cm0 (zv 0) T.o_Rule.cls c_Rule_signs hr gd (by decide) pass0) pa_nil)))))
      pss_nil)
    (pss_one
    (ps_ret (pe_cg c_is_cell_row hr gd (by decide) (by rfl) pass0 (pa_cons (zv 1) (pa_cons (pe_fldK K (zv 0)) (pa_cons (pe_cm0 (zv 0) T.o_Rule.cls c_Rule_signs hr gd (by decide) pass0) pa_nil))))))), ?_⟩
    try dsimp only [cxOf, Cx.nox]
    show (tSeq _ _) _ [some (.ref a), some v] _
    walk_at "zd"
    refine fldV T.o_Rule e (by decide) l1 rfl (eqS ?_)
    unfold rowD at k
    refine iteD (fun hb => ?_) fun hb => ?_
    · rw [if_pos hb] at k
      walk_at "zd"
      refine methV r (by decide) rfl ?_
      exact ⟨a, so, m, nr, rw, rfl, r, v, sgOf m, d, rfl, hv, hz, k⟩
    · rw [if_neg hb] at k
      walk_at "zd"
      refine fldV T.o_Rule e (by decide) l3 rfl (methV r (by decide) rfl ?_)
      exact ⟨a, so, m, nr, rw, rfl, r, v, nr, sgOf m, ns, d, rfl, hv, hz, hN, k⟩

/-! ### refuse_wrong, where nothing is wrong -/
def spRef : Sp := fun vs H Q _ => (∀ v ∈ vs, v = V.bl true) ∧ vs.length ≤ 100000 ∧ ∀ H', Same H H' → Q .non H'
theorem ok_refuse (T : Tx K mg) (F : FunD K "refuse_wrong" "refuse_wrong" (defArgs s_refuse_wrong) (defBody s_refuse_wrong) (defScope s_refuse_wrong) [] [] f fd) : FnR P w K mg base CX0 1 f spRef := by
  refine FnR.imp (star0 (pv := "right") (sp := fun vs H Q _ => ∃ p xs, vs = [V.ref p] ∧ H p = some (.tup xs) ∧ (∀ v ∈ xs, v = V.bl true) ∧ ∀ H', Same H H' → Q .non H') F sc_refuse_wrong StX.cxUp_none ?_ ?_) ?_
  · intro kV doc pm an cdv ct rest
    cases rest <;> rfl
  · rintro cdv A outer s H vs Q E hr ⟨p, xs, rfl, hp, hx, k⟩
    refine ⟨_, PSs.nox (pss_one
    (ps_for PassesOwn.never rfl (pi_enumT (by rfl) T.enumerate (pa_cons (zv 0) pa_nil)) (pg_tupK K 2 (pgs_cons (pg_name (i := 1) sc_refuse_wrong.nd rfl (Or.inl rfl)) (pgs_cons (pg_name (i := 2) sc_refuse_wrong.nd rfl (Or.inl rfl)) pgs_nil)))
      (pss_one
        (ps_if (pt_not (pz_val (zv 2)))
          (pss_one
            ps_noway)
          pss_nil)))), ?_⟩
    try dsimp only [cxOf, Cx.nox]
    show (tFor _ _ _) _ [some (.ref p), none, none] _
    refine for_enT ?_
    walk_at "zd"
    refine ⟨p, xs, rfl, st_of hp, for_G (fun i σ H' => Same H H' ∧ ∃ y z, σ = [some (.ref p), y, z]) ⟨Same.refl _, _, _, rfl⟩ (fun i σ H' _ h => Same.tup h.1 (st_of hp)) ?_ ?_⟩
    · rintro i σ H' T x hi ⟨s1, y, z, rfl⟩ hT hY
      have e : x = V.bl true := hx x (List.mem_of_getElem? hY)
      subst e
      refine gpair rfl upd_same ?_
      walk_at "zd"
      refine iteN (fun z => by cases z) fun _ => ?_
      exact ⟨s1.trans (same_new hT), _, _, rfl⟩
    · rintro σ H' ⟨s1, y, z, rfl⟩
      exact k H' s1
  · rintro vs H Q E ⟨h1, h2, k⟩
    refine ⟨line5 h2, fun p hp => ⟨p, vs, rfl, upd_same, h1, fun H' s => k H' ((same_new hp).trans s)⟩⟩

/-! ### a rule made, of right things -/
theorem for_enL {K : PySem.W.Frag} {ta : TA} {g : TG} {tb : TS} {D : Ends} {σ : L2.St} {H : Hp} (h : ta σ H fun vs H1 => ∃ a xs, vs = [.ref a] ∧ SqL K H1 a xs ∧ ForAsk (Ite K a) g tb D σ H1) : tFor (iEnum K ta) g tb D σ H := h
theorem for_E {K : PySem.W.Frag} {a : Addr} {xs : List V} {g : TG} {tb : TS} {D : Ends} {σ : L2.St} {H : Hp} (Pv : Nat → L2.St → Hp → Prop) (h0 : Pv 0 σ H) (hG : ∀ i σ H, Pv i σ H → SqL K H a xs)
    (hs : ∀ i σ H T x, i < xs.length → Pv i σ H → H T = none → xs[i]? = some x → g (.ref T) σ (upd H T (.tup [.int (i : Nat), x])) fun σ2 H2 => tb { D with nx := Pv (i + 1), ct := Pv (i + 1), bk := D.nx } σ2 H2) (hd : ∀ σ H, Pv xs.length σ H → D.nx σ H) :
    ForAsk (Ite K a) g tb D σ H := by
  refine ⟨fun i m σ H => m = xs.length - i ∧ i ≤ xs.length ∧ Pv i σ H, ⟨xs.length, by simp, Nat.zero_le _, h0⟩, ?_⟩
  rintro i m σ H ⟨rfl, hi, p⟩
  have q := hG i σ H p
  by_cases hlt : i < xs.length
  · refine .inr ⟨⟨xs, xs[i], q, List.getElem?_eq_getElem hlt⟩, Pv (i + 1), fun σ' H' p' => ⟨xs.length - (i + 1), by omega, rfl, hlt, p'⟩, fun v H' y => ?_⟩
    obtain ⟨T, x, rfl, hT, rfl, hy⟩ := y
    exact hs i σ H T x hlt p hT (hy xs q)
  · have e : i = xs.length := by omega
    subst e
    exact .inl ⟨⟨xs, q, Nat.le_refl _⟩, hd σ H p⟩
def spInit (K : PySem.W.Frag) : Sp := fun vs H Q _ => ∃ (H0 : Hp) (x dx : Addr) (so : Str) (m : Int) (nr r0 : Addr) (ns : List Str) (xs : List V) (ds : List PyData), vs = [.ref x, .str so, .int m, .ref nr, .ref r0] ∧ H0 x = none ∧ Same H0 H ∧ H x = some (.ins (He.ga K "Rule") dx []) ∧ sortD (.str so) = true ∧ so.length ≤ 10 ∧ 2 ≤ m ∧ m ≤ 27 ∧
  SqT K H0 nr (ns.map V.str) ∧ nearD so (.tuple (ns.map .str)) = true ∧ Short (.tuple (ns.map .str)) ∧ SqL K H0 r0 xs ∧ ThA K H0 xs ds ∧ xs.length ≤ 80 ∧ (∀ d ∈ ds, Short d ∧ rowD so ns (sgOf m) d = true) ∧
  ∀ rw H', H0 rw = none → Same H0 H' → RuleAt K H' x so m nr rw → H' rw = some (.lst xs) → Q .non H'
theorem ok_init (T : Tx K mg) (c_is_sort : Cg P w K mg base CX0 1 "_is_sort" (spOn K sortD)) (c_is_from_to : Cg P w K mg base CX0 2 "is_from_to" (spFromD K)) (c_is_near : Cg P w K mg base CX0 2 "_is_near" (spNear K)) (c_refuse_wrong : Cr P w K mg base CX0 1 "refuse_wrong" spRef)
    (c_Rule_is_row : Cm P w K mg base CX0 7 (He.ga K "Rule") "_is_row" (spIsRow K)) (F : FunD K "__init__" "Rule.__init__" (defArgs s_Rule_init) (defBody s_Rule_init) (defScope s_Rule_init) [] [] f fd) : FnG P w K mg base CX0 8 f fd ["self", "sort", "many", "near", "rows"] (spInit K) := by
  refine FnG.of F sc_Rule_init (fun vs H Q E h => ?_) (fun cdv A outer s H vs Q E hr gd h => ?_)
  · obtain ⟨H0, x, dx, so, m, nr, r0, ns, xs, ds, rfl, _⟩ := h
    rfl
  · obtain ⟨H0, x, dx, so, m, nr, r0, ns, xs, ds, rfl, hx0, s0, hx, hso, hsl, m1, m2, hN, hnear, hsh, hR, hA, hl, hrow, k⟩ := h
    have hu : (A.deeper (envOfC "Rule.__init__" (defScope s_Rule_init) s.heap.objs.size f cdv)).units + 64 < cLine := by have := hr.un; omega
    refine ⟨_, PSs.nox (pss_cons
    (ps_expr (pe_cr c_refuse_wrong hr (by decide) (by rfl) pass0 (pa_cons (pe_cg c_is_sort hr gd (by decide) (by rfl) pass0 (pa_cons (zv 1) pa_nil)) (pa_cons (pe_cg c_is_from_to hr gd (by decide) (by rfl) pass0 (pa_cons (zv 2) (pa_cons pe_int (pa_cons (pe_callB (call_lenK K) (by rfl) T.len (by decide +kernel) (pa_cons (C8.pe_gc (by rfl) T.c_SIGNS) pa_nil)) pa_nil)))) (pa_cons (pz_and (pe_cg c_is_sort hr gd (by decide) (by rfl) pass0 (pa_cons (zv 1) pa_nil)) (pe_one (pe_cg c_is_near hr gd (by decide) (by rfl) pass0 (pa_cons (zv 3) (pa_cons (zv 1) pa_nil))))) (pa_cons (pz_and (pe_callB (call_isiK K) (by rfl) T.isinstance (by decide +kernel) (pa_cons (zv 4) (pa_cons (pe_bltn (v := .ty "list") (by rfl) T.list (by decide +kernel) rfl) pa_nil))) (pe_one (pe_cmpR op_leZ (pe_callB (call_lenK K) (by rfl) T.len (by decide +kernel) (pa_cons (zv 4) pa_nil)) (C8.pe_gc (by rfl) T.c_MOST_ROWS) (nomark _)))) pa_nil))))))
    (pss_cons
    (ps_fldK K (zv 0) (zv 1))
    (pss_cons
    (ps_fldK K (zv 0) (zv 2))
    (pss_cons
    (ps_fldK K (zv 0) (pe_callTy (call_tupleK K) (by rfl) T.tuple (by decide +kernel) (pa_cons (zv 3) pa_nil)))
    (pss_cons
    (ps_fldK K (zv 0) (pe_callTy (call_listK K) (by rfl) T.list (by decide +kernel) (pa_cons (zv 4) pa_nil)))
    (pss_one
    (ps_for PassesOwn.never rfl (pi_enumK K (by rfl) T.enumerate (pa_cons (pe_fldK K (zv 0)) pa_nil)) (pg_tupK K 2 (pgs_cons (pg_name (i := 5) sc_Rule_init.nd rfl (Or.inl rfl)) (pgs_cons (pg_name (i := 6) sc_Rule_init.nd rfl (Or.inl rfl)) pgs_nil)))
      (pss_one
        (ps_if (pt_not (pz_val (pe_cm (zv 0) T.o_Rule.cls c_Rule_is_row hr gd (by decide) pass0 (pa_cons (zv 6) pa_nil))))
          (pss_one
            ps_noway)
          pss_nil))))))))), ?_⟩
    try dsimp only [cxOf, Cx.nox]
    show (tSeq _ _) _ [some (.ref x), some (.str so), some (.int m), some (.ref nr), some (.ref r0), none, none] _
    walk_at "zd"
    have shs : Short (.str so) := by
      show PyData.weight (.str so) ≤ 20000
      have e : PyData.weight (.str so) = so.length := by simp only [PyData.weight]; rfl
      rw [e]
      omega
    refine ⟨.str so, _, rfl, .str so, shs, fun H1 s1 => ?_⟩
    have s01 := s0.trans s1
    show rLenZ K [V.str sgA] H1 _
    refine lenS (by have e : sgA.length = 27 := by decide
                    rw [e]; exact line5 (by decide)) ⟨.int m, .int m, 2, _, rfl, .int m, ?_⟩
    have e27 : ((sgA.length : Nat) : Int) = 27 := by decide
    have hf : fromD 2 ((sgA.length : Nat) : Int) (.int m) = true := by
      rw [e27]
      show (decide ((2 : Int) ≤ m) && decide (m ≤ 27)) = true
      rw [decide_eq_true m1, decide_eq_true m2]
      rfl
    rw [hf]
    refine ⟨.str so, _, rfl, .str so, shs, fun H2 s2 => ?_⟩
    have s02 := s01.trans s2
    rw [hso]
    refine iteT ⟨.ref nr, .tuple (ns.map .str), so, rfl, .tup (Same.tup s02 hN) (ThA.strs ns), hsh, fun H3 s3 => ?_⟩
    have s03 := s02.trans s3
    rw [hnear]
    refine isi_list (.lst (s03.seq hR) (ThA.mono s03 _ _ hA)) (iteT ?_)
    refine lenL (s03.seq hR) rfl (leI ?_)
    have l80 : decide ((xs.length : Int) ≤ 80) = true := decide_eq_true (by omega)
    rw [l80]
    refine ⟨fun v hv => ?_, by show 4 ≤ 100000; decide, fun H4 s4 => ?_⟩
    · simp only [List.mem_cons, List.not_mem_nil, or_false] at hv
      rcases hv with rfl | rfl | rfl | rfl <;> rfl
    have s04 := s03.trans s4
    have hx4 := (((s1.trans s2).trans s3).trans s4) _ _ hx
    walk_at "zd"
    dsimp only [sFld]
    walk_at "zd"
    refine ⟨x, _, dx, [], rfl, hx4, T.o_Rule.cls, T.o_Rule.no _ (by decide), by show 0 < 1000; decide, ?_⟩
    have e5 : upd H4 x (.ins (He.ga K "Rule") dx (putF "_sort" (.str so) [])) x = some (.ins (He.ga K "Rule") dx [("_sort", .str so)]) := upd_same
    have s05 : Same H0 (upd H4 x (.ins (He.ga K "Rule") dx (putF "_sort" (.str so) []))) := same_mut s04 hx0
    revert e5 s05
    generalize upd H4 x (.ins (He.ga K "Rule") dx (putF "_sort" (.str so) [])) = H5
    intro e5 s05
    clear s04 s03 s02 s01 hx4 s4 s3 s2 s1
    dsimp only [sFld]
    walk_at "zd"
    refine ⟨x, _, dx, _, rfl, e5, T.o_Rule.cls, T.o_Rule.no _ (by decide), by show 1 < 1000; decide, ?_⟩
    have e6 : upd H5 x (.ins (He.ga K "Rule") dx (putF "_many" (.int m) [("_sort", .str so)])) x = some (.ins (He.ga K "Rule") dx [("_sort", .str so), ("_many", .int m)]) := upd_same
    have s06 : Same H0 (upd H5 x (.ins (He.ga K "Rule") dx (putF "_many" (.int m) [("_sort", .str so)]))) := same_mut s05 hx0
    revert e6 s06
    generalize upd H5 x (.ins (He.ga K "Rule") dx (putF "_many" (.int m) [("_sort", .str so)])) = H6
    intro e6 s06
    clear s05 e5
    dsimp only [sFld]
    walk_at "zd"
    refine ⟨ns.map V.str, .inr ⟨Same.tup s06 hN, ?_⟩⟩
    refine ⟨x, _, dx, _, rfl, e6, T.o_Rule.cls, T.o_Rule.no _ (by decide), by show 2 < 1000; decide, ?_⟩
    have e7 : upd H6 x (.ins (He.ga K "Rule") dx (putF "_near" (.ref nr) [("_sort", .str so), ("_many", .int m)])) x = some (.ins (He.ga K "Rule") dx [("_sort", .str so), ("_many", .int m), ("_near", .ref nr)]) := upd_same
    have s07 : Same H0 (upd H6 x (.ins (He.ga K "Rule") dx (putF "_near" (.ref nr) [("_sort", .str so), ("_many", .int m)]))) := same_mut s06 hx0
    revert e7 s07
    generalize upd H6 x (.ins (He.ga K "Rule") dx (putF "_near" (.ref nr) [("_sort", .str so), ("_many", .int m)])) = H7
    intro e7 s07
    clear s06 e6
    dsimp only [sFld]
    walk_at "zd"
    refine ⟨xs, .inl (s07.seq hR), fun rw hrw => ?_⟩
    have s8 := same_new (o := .lst xs) hrw
    have nrw : rw ≠ x := fun e => by rw [e, e7] at hrw; cases hrw
    refine ⟨x, _, dx, _, rfl, s8 _ _ e7, T.o_Rule.cls, T.o_Rule.no _ (by decide), by show 3 < 1000; decide, ?_⟩
    have s09 : Same H0 (upd (upd H7 rw (.lst xs)) x (.ins (He.ga K "Rule") dx (putF "_rows" (.ref rw) [("_sort", .str so), ("_many", .int m), ("_near", .ref nr)]))) := same_mut (s07.trans s8) hx0
    have e9 : upd (upd H7 rw (.lst xs)) x (.ins (He.ga K "Rule") dx (putF "_rows" (.ref rw) [("_sort", .str so), ("_many", .int m), ("_near", .ref nr)])) rw = some (.lst xs) := by rw [upd_ne nrw, upd_same]
    have r9 : RuleAt K (upd (upd H7 rw (.lst xs)) x (.ins (He.ga K "Rule") dx (putF "_rows" (.ref rw) [("_sort", .str so), ("_many", .int m), ("_near", .ref nr)]))) x so m nr rw := by
      refine ⟨dx, [("_sort", .str so), ("_many", .int m), ("_near", .ref nr), ("_rows", .ref rw)], upd_same, rfl, rfl, rfl, rfl, fun q hq => ?_⟩
      simp only [List.mem_cons, List.not_mem_nil, or_false, not_or] at hq
      obtain ⟨q1, q2, q3, q4⟩ := hq
      simp only [List.lookup, beq_eq_false_iff_ne.mpr q1, beq_eq_false_iff_ne.mpr q2, beq_eq_false_iff_ne.mpr q3, beq_eq_false_iff_ne.mpr q4]
    have hrw0 : H0 rw = none := s07.free hrw
    revert s09 e9 r9
    generalize upd (upd H7 rw (.lst xs)) x (.ins (He.ga K "Rule") dx (putF "_rows" (.ref rw) [("_sort", .str so), ("_many", .int m), ("_near", .ref nr)])) = H9
    intro s09 e9 r9
    clear s07 e7 s8 hrw
    have r9' := r9
    obtain ⟨dx', fs, ef, l1, l2, l3, l4, _⟩ := r9.ex
    refine for_enL ?_
    walk_at "zd"
    refine fldV T.o_Rule ef (by decide) l4 rfl ?_
    refine ⟨rw, xs, rfl, sq_of e9, for_E (K := K) (a := rw) (xs := xs) (fun _ σ H' => Same H9 H' ∧ ∃ x5 x6, σ = [some (.ref x), some (.str so), some (.int m), some (.ref nr), some (.ref r0), x5, x6]) ⟨Same.refl _, _, _, rfl⟩ (fun _ _ _ h => h.1.seq (sq_of e9)) ?_ ?_⟩
    rotate_left
    · rintro σ H10 ⟨s10, x5, x6, rfl⟩
      exact k rw H10 hrw0 (s09.trans s10) (r9'.same s10) (s10 _ _ e9)
    rintro i σ H10 U y hi ⟨s10, x5, x6, rfl⟩ hU hy
    have sU := s10.trans (same_new (o := .tup [.int (i : Nat), y]) hU)
    obtain ⟨d, hd, ty⟩ := hA.get hy
    obtain ⟨hsd, hrd⟩ := hrow d (List.mem_of_getElem? hd)
    refine gpair rfl upd_same ?_
    walk_at "zd"
    refine methV (r9'.same sU) (by decide) rfl ?_
    refine ⟨x, so, m, nr, rw, y, d, ns, rfl, r9'.same sU, Same.tup (s09.trans sU) hN, ty.mono (s09.trans sU), hsd, fun H11 s11 => ?_⟩
    rw [hrd]
    refine iteN (fun z => by cases z) fun _ => ?_
    exact ⟨sU.trans s11, _, _, rfl⟩

/-! ### a rule, as a whole -/
structure RlP (so : Str) (m : Int) (ns : List Str) (ds : List PyData) : Prop where
  sok : sortD (.str so) = true
  sl : so.length ≤ 10
  m1 : 2 ≤ m
  m2 : m ≤ 27
  near : nearD so (.tuple (ns.map .str)) = true
  nsh : Short (.tuple (ns.map .str))
  row : ∀ d ∈ ds, Short d ∧ rowD so ns (sgOf m) d = true
  len : ds.length ≤ 80
structure Rl (K : PySem.W.Frag) (H : Hp) (a : Addr) (so : Str) (m : Int) (ns : List Str) (ds : List PyData) : Prop where
  ex : ∃ nr rw xs, RuleAt K H a so m nr rw ∧ SqT K H nr (ns.map V.str) ∧ H rw = some (.lst xs) ∧ ThA K H xs ds
theorem Rl.same {K : PySem.W.Frag} {H H' : Hp} {a : Addr} {so : Str} {m : Int} {ns : List Str} {ds : List PyData} (r : Rl K H a so m ns ds) (s : Same H H') : Rl K H' a so m ns ds := by
  obtain ⟨nr, rw, xs, h1, h2, h3, h4⟩ := r.ex
  exact ⟨nr, rw, xs, h1.same s, Same.tup s h2, s _ _ h3, ThA.mono s _ _ h4⟩
theorem Rl.down {K : PySem.W.Frag} {B : Addr → Bool} {H : Hp} {a : Addr} {so : Str} {m : Int} {ns : List Str} {ds : List PyData} (r : Rl K (hd B H) a so m ns ds) : Rl K H a so m ns ds := r.same (hd_le B H)
/-- a rule is made of right things -/
theorem mkRuleX {K : PySem.W.Frag} {B : Addr → Bool} {H : Hp} {so : Str} {m : Int} {nr r0 : Addr} {ns : List Str} {xs : List V} {ds : List PyData} {R : Hp → Prop} {E : XK} (hB : Hid B H) (p : RlP so m ns ds) (hN : SqT K (hd B H) nr (ns.map V.str)) (hR : SqL K H r0 xs) (hA : ThA K (hd B H) xs ds) {x dx : Addr} (hx : H x = none) (hdx : H dx = none)
    (q : ∀ H', Same H H' → Rl K (hd B H') x so m ns ds → R H') : spInit K [.ref x, .str so, .int m, .ref nr, .ref r0] (upd (upd H dx (.own x)) x (.ins (He.ga K "Rule") dx [])) (fun v H2 => v = .non ∧ R H2) E := by
  have s1 : Same H (upd (upd H dx (.own x)) x (.ins (He.ga K "Rule") dx [])) := same_mut (same_new hdx) hx
  refine ⟨H, x, dx, so, m, nr, r0, ns, xs, ds, rfl, hx, s1, upd_same, p.sok, p.sl, p.m1, p.m2, Same.tup (hd_le B H) hN, p.near, p.nsh, hR, ThA.mono (hd_le B H) _ _ hA, by rw [hA.len]; exact p.len, p.row, ?_⟩
  intro rw H' hrw s2 hat hrw2
  refine ⟨rfl, q H' s2 ⟨nr, rw, xs, ?_, Same.tup (Same.hd s2) hN, hd_of (hB.off hrw) hrw2, ThA.mono (Same.hd s2) _ _ hA⟩⟩
  obtain ⟨dx', fs, e, l⟩ := hat.ex
  exact ⟨dx', fs, hd_of (hB.off hx) e, l⟩

/-! ### what a block becomes -/
theorem tha2 {K : PySem.W.Frag} {H : Hp} {xs : List V} {d0 d1 : PyData} (h : ThA K H xs [d0, d1]) : ∃ x0 x1, xs = [x0, x1] ∧ Th K H x0 d0 ∧ Th K H x1 d1 := by
  cases h with | cons t0 h => cases h with | cons t1 h => cases h; exact ⟨_, _, rfl, t0, t1⟩
theorem so_str {sg : Str} {d : PyData} (h : soD sg d = true) : ∃ x, d = .str x := by
  obtain ⟨h1, _⟩ := Bool.and_eq_true_iff.mp h
  cases d with
  | str x => exact ⟨x, rfl⟩
  | _ => cases h1
/-- four of a rule's signs -/
structure FourOk (m : Int) (x : Str) : Prop where
  len : x.length = 4
  sub : ∀ c ∈ x.cps.toList, c ∈ (sgOf m).cps.toList
def fitB (hs : List Str) (x : Str) : Bool := (x.cps.toList.zip hs).all fun p => decide (p.1 ∈ p.2.cps.toList)
def foursOf : PyData → List Str
  | .tuple [.tuple fs, _] => fs.map txtOf
  | _ => []
def toldOf : PyData → Str
  | .tuple [_, .str y] => y
  | _ => ""
def blkD (x : Str) : List PyData → Str
  | [] => x
  | d :: ds => if fitB (foursOf d) x = true then toldOf d else blkD x ds
theorem block_full {sg : Str} {d : PyData} (h : blockD sg d = true) : ∃ (hs : List Str) (y : Str), d = .tuple [.tuple (hs.map .str), .str y] ∧ hs.length = 4 ∧ y.length = 4 ∧ madeOf sg (.str y) = true := by
  unfold blockD at h
  split at h
  · rename_i d e
    obtain ⟨h1, h'⟩ := Bool.and_eq_true_iff.mp h
    obtain ⟨h2, h3⟩ := Bool.and_eq_true_iff.mp h'
    clear h h'
    unfold foursD at h1
    split at h1
    · rename_i fs
      obtain ⟨h4, h5⟩ := Bool.and_eq_true_iff.mp h1
      have h4 := of_decide_eq_true h4
      cases e with
      | str x =>
        have h3 := of_decide_eq_true h3
        have h3 : ((x.length : Nat) : Int) = 4 := h3
        have key : ∀ l : List PyData, l.all (soD sg) = true → l = (l.map txtOf).map PyData.str := by
          intro l
          induction l with
          | nil => intro _; rfl
          | cons a l ih =>
            intro hl
            rw [List.all_cons, Bool.and_eq_true] at hl
            obtain ⟨z, rfl⟩ := so_str hl.1
            rw [List.map_cons, List.map_cons, ← ih hl.2]
            rfl
        exact ⟨fs.map txtOf, x, by rw [← key fs h5], by rw [List.length_map]; omega, by omega, h2⟩
      | _ => cases h2
    · cases h1
  · cases h
theorem blk_step {hs : List Str} {x y : Str} {ds : List PyData} : blkD x (.tuple [.tuple (hs.map .str), .str y] :: ds) = if fitB hs x = true then y else blkD x ds := by
  have e : foursOf (.tuple [.tuple (hs.map .str), .str y]) = hs := by
    show (hs.map PyData.str).map txtOf = hs
    rw [List.map_map]
    exact List.map_id hs
  show (if fitB (foursOf _) x = true then _ else _) = _
  rw [e]
  rfl
theorem blk_ok {m : Int} {ns : List Str} {x : Str} : ∀ {ds : List PyData}, (∀ d ∈ ds, rowD "blocks" ns (sgOf m) d = true) → FourOk m x → FourOk m (blkD x ds)
  | [], _, h => h
  | d :: ds, hd, h => by
    have h1 := hd d List.mem_cons_self
    unfold rowD at h1
    rw [if_pos rfl] at h1
    obtain ⟨hs, y, rfl, _, hy, hm⟩ := block_full h1
    rw [blk_step]
    split
    · exact ⟨hy, fun c mc => of_decide_eq_true (List.all_eq_true.mp hm c mc)⟩
    · exact blk_ok (fun e me => hd e (List.mem_cons_of_mem _ me)) h
def spBlk (K : PySem.W.Frag) : Sp := fun vs H Q _ => ∃ (a : Addr) (m : Int) (ns : List Str) (ds : List PyData) (x : Str), vs = [.ref a, .str x] ∧ Rl K H a "blocks" m ns ds ∧ RlP "blocks" m ns ds ∧ FourOk m x ∧ ∀ H', Same H H' → Q (.str (blkD x ds)) H'
theorem ok_blk (T : Tx K mg) (c_Rule_signs : Cm P w K mg base CX0 1 (He.ga K "Rule") "signs" (spSigns K)) (c_is_text_of : Cg P w K mg base CX0 2 "is_text_of" (spText K)) (c_refuse_wrong : Cr P w K mg base CX0 1 "refuse_wrong" spRef) (F : FunD K "block" "Rule.block" (defArgs s_Rule_block) (defBody s_Rule_block) (defScope s_Rule_block) [] [] f fd) : FnG P w K mg base CX0 3 f fd ["self", "four"] (spBlk K) := by
  refine FnG.of F sc_Rule_block (fun vs H Q E h => ?_) (fun cdv A outer s H vs Q E hr gd h => ?_)
  · obtain ⟨a, m, ns, ds, x, rfl, _⟩ := h
    rfl
  · obtain ⟨a, m, ns, ds, x, rfl, hR, hp, hx, k⟩ := h
    have hu : (A.deeper (envOfC "Rule.block" (defScope s_Rule_block) s.heap.objs.size f cdv)).units + 64 < cLine := by have := hr.un; omega
    refine ⟨_, PSs.nox (pss_cons
    (ps_expr (pe_cr c_refuse_wrong hr (by decide) (by rfl) pass0 (pa_cons (pe_cg c_is_text_of hr gd (by decide) (by rfl) pass0 (pa_cons (zv 1) (pa_cons (pe_cm0 (zv 0) T.o_Rule.cls c_Rule_signs hr gd (by decide) pass0) (pa_cons pe_int pa_nil)))) pa_nil)))
    (pss_cons
    (ps_if (pz_cmp (op_neK K hu) (pe_fldK K (zv 0)) pe_str (nomark _))
      (pss_one
        ps_noway)
      pss_nil)
    (pss_cons
    (ps_for PassesOwn.never rfl (pi_listK K (pe_fldK K (zv 0))) (pg_tupK K 2 (pgs_cons (pg_name (i := 2) sc_Rule_block.nd rfl (Or.inl rfl)) (pgs_cons (pg_name (i := 3) sc_Rule_block.nd rfl (Or.inl rfl)) pgs_nil)))
      (pss_one
        (ps_if (pz_val (pe_callB (call_allK K) (by rfl) T.all (by decide +kernel) (pa_cons (pe_lc (own := [("sign", 4), ("held", 5)]) rfl sc_Rule_block.nd (pi_zipSTK K (by rfl) T.zip (pa_cons (zv 1) (pa_cons (zv 2) pa_nil))) (blkOk_by (by kernel_rfl)) (fun _ _ _ _ _ => (pg_tupK K 2 (pgs_cons (pg_name (i := 4) sc_Rule_block.nd rfl (Or.inl rfl)) (pgs_cons (pg_name (i := 5) sc_Rule_block.nd rfl (Or.inl rfl)) pgs_nil)))) (fun _ _ _ _ _ => pts_nil) (fun _ _ _ _ _ => (pe_cmpR (op_inK K) (zv 4) (zv 5) (by with_unfolding_all rfl)))) pa_nil)))
          (pss_one
            (ps_ret (zv 3)))
          pss_nil)))
    (pss_one
    (ps_ret (zv 1)))))), ?_⟩
    try dsimp only [cxOf, Cx.nox]
    show (tSeq _ _) _ [some (.ref a), some (.str x), none, none, none, none] _
    walk_at "zd"
    obtain ⟨nr, rw_, xs, hat, hN, hrw, hA⟩ := hR.ex
    obtain ⟨dx, fs, e, l1, l2, l3, l4, _⟩ := hat.ex
    have hxl := hx.len
    refine methV hat (by decide) rfl ⟨a, "blocks", m, nr, rw_, rfl, hat, ?_⟩
    have hc2 : (madeOf (sgOf m) (.str x) && decide ((dlen (.str x) : Int) = 4)) = true := by
      have e1 : madeOf (sgOf m) (.str x) = true := List.all_eq_true.mpr fun c mc => decide_eq_true (hx.sub c mc)
      rw [e1, Bool.true_and]
      refine decide_eq_true ?_
      show ((x.length : Nat) : Int) = 4
      omega
    have sh2 : Short (.str x) := by
      have e1 : PyData.weight (.str x) = x.length := rfl
      show PyData.weight (.str x) ≤ 20000
      omega
    refine ⟨_, .str x, sgOf m, 4, rfl, .str _, sh2, fun H1 s1 => ?_⟩
    rw [hc2]
    refine ⟨fun v hv => ?_, by show 1 ≤ 100000; decide, fun H2 s2 => ?_⟩
    · simp only [List.mem_cons, List.not_mem_nil, or_false] at hv
      rw [hv]
    have s02 := s1.trans s2
    have e2 := s02 _ _ e
    refine fldV T.o_Rule e2 (by decide) l1 rfl (eqS (iteN (fun q => by cases q) fun _ => ?_))
    refine for_lst ?_
    walk_at "zd"
    have hrw2 := s02 _ _ hrw
    have hA2 := ThA.mono s02 _ _ hA
    refine fldV T.o_Rule e2 (by decide) l4 rfl ⟨rw_, rfl, ⟨_, sq_of hrw2⟩, for_list (K := K) (a := rw_) (xs := xs) (fun i σ H' => Same H2 H' ∧ (∃ x2 x3 x4 x5, σ = [some (.ref a), some (.str x), x2, x3, x4, x5]) ∧ blkD x ds = blkD x (ds.drop i)) ⟨Same.refl _, ⟨_, _, _, _, rfl⟩, rfl⟩ (fun i σ H' _ h => h.1.seq (sq_of hrw2)) ?_ ?_⟩
    · rintro i v σ H' hv ⟨s', ⟨x2, x3, x4, x5, rfl⟩, hi⟩
      obtain ⟨d, hd1, ty⟩ := hA2.get hv
      have ty' := ty.mono s'
      have hrow := (hp.row d (List.mem_of_getElem? hd1)).2
      unfold rowD at hrow
      rw [if_pos rfl] at hrow
      obtain ⟨hs, y, rfl, hhs, hy, _⟩ := block_full hrow
      obtain ⟨b, ys, es, q1, rfl, hS, hTs⟩ := th_tup ty' rfl
      cases q1
      obtain ⟨y0, y1, rfl, t0, t1⟩ := tha2 hTs
      cases t1
      obtain ⟨bf, yf, es, q1, rfl, hSf, hTf⟩ := th_tup t0 rfl
      cases q1
      have dr : ds.drop i = .tuple [.tuple (hs.map .str), .str y] :: ds.drop (i + 1) := by
        have hlt := (List.getElem?_eq_some_iff.mp hd1).1
        rw [List.drop_eq_getElem_cons hlt, (List.getElem?_eq_some_iff.mp hd1).2]
      have eb : blkD x (ds.drop i) = if fitB hs x = true then y else blkD x (ds.drop (i + 1)) := by rw [dr, blk_step]
      refine ⟨b, _, rfl, hS, rfl, .ref bf, _, rfl, _, [], rfl, rfl, ?_⟩
      walk_at "zd"
      have yl : yf.length = 4 := by rw [hTf.len, List.length_map, hhs]
      refine comp_zip (K := K) (z := x) (b := bf) (ys := yf) ((x.cps.toList.zip hs).map fun p => V.bl (decide (p.1 ∈ p.2.cps.toList))) hSf (by rw [yl, hxl]) (by omega) (fun R r => r) (by rw [List.length_map, List.length_zip, str_len, hhs, hxl, yl]; rfl) ?_ ?_
      · intro j c y1 w1 T1 H3 hc hy1 hw1 s3 hT1 Q' R' q
        obtain ⟨d, hd2, ty2⟩ := hTf.get hy1
        rw [List.getElem?_map] at hd2
        obtain ⟨hh, hhj, rfl⟩ := Option.map_eq_some_iff.mp hd2
        cases ty2
        have ew : w1 = V.bl (decide (c ∈ hh.cps.toList)) := by
          rw [List.getElem?_map] at hw1
          obtain ⟨p, hp1, rfl⟩ := Option.map_eq_some_iff.mp hw1
          have := List.getElem?_zip_eq_some.mp hp1
          rw [hc, hhj] at this
          obtain ⟨q1, q2⟩ := this
          rw [← Option.some.inj q1, ← Option.some.inj q2]
        subst ew
        refine ⟨T1, _, rfl, st_of hT1, rfl, .str (one c), _, rfl, .str hh, [], rfl, rfl, ?_⟩
        refine ⟨rfl, ?_⟩
        dsimp only [tYes]
        rw [if_pos rfl]
        walk_at "zd"
        exact inS (K := K) (q H3 (Same.refl _))
      intro D H4 hD s4 h4
      have h4' : H4 D = some (.lst (((x.cps.toList.zip hs).map fun p => decide (p.1 ∈ p.2.cps.toList)).map V.bl)) := by rw [h4, List.map_map]; rfl
      refine allL (sq_of h4') (b := fitB hs x) (by unfold fitB; rw [List.all_map]; rfl) ?_
      cases ea : fitB hs x with
      | true =>
        rw [ea, if_pos rfl] at eb
        refine iteT ?_
        have kk := k H4 ((s02.trans s').trans s4)
        rw [hi, eb] at kk
        exact kk
      | false =>
        rw [ea, if_neg Bool.false_ne_true] at eb
        refine iteF ?_
        exact ⟨s'.trans s4, ⟨_, _, _, _, rfl⟩, by rw [hi, eb]⟩
    · rintro σ H' ⟨s', ⟨x2, x3, x4, x5, rfl⟩, hi⟩
      walk_at "zd"
      have kk := k H' (s02.trans s')
      rw [hi, hA.len, List.drop_length] at kk
      exact kk

/-! ### the bag -/
def spBag (K : PySem.W.Frag) : Sp := fun vs H Q _ => ∃ (a : Addr) (ns : List Int), vs = [.ref a] ∧ SqL K H a (ns.map V.int) ∧ ns.length ≤ 63 ∧ ∀ (ω : Bg) (H' : Hp), Same H H' → Bag K H' ω → H ω.b = none → Q (.ref ω.b) H'
theorem ok_bag (T : Tx K mg) (F : FunD K "_law_bag" "_law_bag" (defArgs s_law_bag) (defBody s_law_bag) (defScope s_law_bag) [] [] f fd) : FnG P w K mg base CX0 1 f fd ["_law_script"] (spBag K) := by
  refine FnG.of F sc_law_bag (fun vs H Q E h => ?_) (fun cdv A outer s H vs Q E hr gd h => ?_)
  · obtain ⟨a, ns, rfl, _⟩ := h
    rfl
  · obtain ⟨a, ns, rfl, hS, hn, k⟩ := h
    have hu : (A.deeper (envOfC "_law_bag" (defScope s_law_bag) s.heap.objs.size f cdv)).units + 64 < cLine := by have := hr.un; omega
    refine ⟨_, PSs.nox (pss_one
    (ps_ret (pe_lst (pa_cons pe_int (pa_cons pe_int (pa_cons pe_int (pa_cons (pe_lc (own := [("_law_cell", 1)]) rfl sc_law_bag.nd (pi_listK K (pe_slice (sl_K K) (zv 0) po_none (po_some pe_int))) (blkOk_by (by kernel_rfl)) (fun _ _ _ _ _ => (pg_name (i := 1) sc_law_bag.nd rfl (Or.inl rfl))) (fun _ _ _ _ _ => pts_nil) (fun _ _ _ _ _ => (pe_callB call_absZ (by rfl) T.abs (by decide +kernel) (pa_cons (zv 1) pa_nil)))) pa_nil))))))), ?_⟩
    try dsimp only [cxOf, Cx.nox]
    show (tRet _) _ [some (.ref a), none] _
    walk_at "zd"
    refine comp_listF (K := K) (xs := ns.map V.int) (fun x => match x with
      | .int i => .int (if i < 0 then -i else i)
      | x => x) (fun R r => ?_) (by rw [List.length_map]; omega) ?_ fun D H2 hD s2 h2 => ?_
    · refine ⟨63, rfl, slL hS fun p hp => ?_⟩
      have e : cutV (ns.map V.int) none (some 63) = ns.map V.int := (cut_to _ 63).trans (List.take_of_length_le (by rw [List.length_map]; omega))
      rw [e]
      exact r p _ (same_new hp) (sq_of upd_same)
    · intro y hy H' s' Q' q
      obtain ⟨i, hi, rfl⟩ := List.mem_map.mp hy
      walk_at "zd"
      exact q H' (Same.refl _)
    refine ⟨line5 (show 4 ≤ 100000 by decide), fun p hp => ?_⟩
    have np : D ≠ p := fun e => by
      rw [e, hp] at h2
      cases h2
    refine k ⟨p, D, ns.map fun i => if i < 0 then -i else i⟩ _ (s2.trans (same_new hp)) ⟨0, 1234567891, 0, upd_same, ?_, np, by decide, by decide, by decide, fun z hz => ?_⟩ (s2.free hp)
    · refine sq_of ?_
      rw [upd_ne np, h2, List.map_map, List.map_map]
      rfl
    · obtain ⟨i, _, rfl⟩ := List.mem_map.mp hz
      split <;> omega

/-! ### texts -/
theorem eq_mono {K : PySem.W.Frag} {f : Bool → Bool} {x y : V} {H : Hp} {Q1 Q2 : VK} (e : ∀ v H', Q1 v H' → Q2 v H') (h : rEqZ K f x y H Q1) : rEqZ K f x y H Q2 := by
  unfold rEqZ at h ⊢
  split at h
  · rename_i c
    rw [if_pos c]
    obtain ⟨d, d2, h1, h2, h3, h4, h5⟩ := h
    exact ⟨d, d2, h1, h2, h3, h4, e _ _ h5⟩
  · rename_i c
    rw [if_neg c]
    exact ⟨h.1, e _ _ h.2⟩
/-- `take(bag, n) == c` as a test can be weakened -/
theorem draw_mono (K : PySem.W.Frag) (i j : Nat) (c : V) (σ : L2.St) (H : Hp) (Q1 Q2 : Bool → Hp → Prop) (e : ∀ b H', Q1 b H' → Q2 b H')
    (h : zTest (tOp (rEqZ K id) (tCall (spTake K) [] E0 (tCons (zVar i) (tCons (zVar j) tNil))) (tC c)) σ H Q1) : zTest (tOp (rEqZ K id) (tCall (spTake K) [] E0 (tCons (zVar i) (tCons (zVar j) tNil))) (tC c)) σ H Q2 := by
  obtain ⟨v0, e0, h⟩ := onV_ex h
  obtain ⟨v3, e3, h⟩ := onV_ex h
  obtain ⟨ω', m, hv, g, a, b, k⟩ := h
  refine (show onV σ[i]? (fun v => onV σ[j]? fun u => spTake K [v, u] H (fun y H2 => rEqZ K id y c H2 fun x H' => onB x fun k => Q2 k H') E0) from ?_)
  rw [e0]
  show onV σ[j]? _
  rw [e3]
  refine ⟨ω', m, hv, g, a, b, fun v H' p q r t => ?_⟩
  have kk : rEqZ K id (.int v) c H' (fun x H' => onB x fun k => Q1 k H') := k v H' p q r t
  refine eq_mono (fun v H h => ?_) kk
  obtain ⟨b, rfl, h⟩ := onB_ex h
  exact e _ _ h
/-- over a text, its tests draw -/
theorem comp_strD {K : PySem.W.Frag} {ω : Bg} {te0 te : TE} {tt : TT} {x : Str} {vs : List Nat} {j : Nat} {σ : L2.St} {H : Hp} {Q : VK} (g : Bag K H ω) (Iv : Nat → List V → Prop) (h0 : ∀ R : VK, R (.str x) H → te0 σ H R) (hz : x.length ≤ 100000) (i0 : Iv 0 [])
    (hs : ∀ i y acc H', (signsV x)[i]? = some y → Bag K H' ω → Iv i acc → tt ((σ.set j none).set j (some y)) H' fun b H3 => if b = true then te ((σ.set j none).set j (some y)) H3 fun u H4 => Bag K H4 ω ∧ Go ω.b H' H4 ∧ Iv (i + 1) (acc ++ [u]) else Bag K H3 ω ∧ Go ω.b H' H3 ∧ Iv (i + 1) acc)
    (mt : ∀ σ H (Q1 Q2 : Bool → Hp → Prop), (∀ c H', Q1 c H' → Q2 c H') → tt σ H Q1 → tt σ H Q2) (me : ∀ σ H (Q1 Q2 : VK), (∀ v H', Q1 v H' → Q2 v H') → te σ H Q1 → te σ H Q2)
    (k : ∀ D acc H', H D = none → acc.length ≤ x.length → Bag K H' ω → Go ω.b H H' → Iv x.length acc → H' D = some (.lst acc) → Q (.ref D) H') (hv : vs = [j] := by rfl) : tLc (iStr te0) (gName j) tt te vs σ H Q := by
  refine h0 _ ⟨x, rfl, ?_⟩
  have e := signsV_len x
  exact lcD (hv := hv) (xs := signsV x) (G := fun _ => True) (walk_strV (z := x)) (fun q => decide (q = ω.b)) (Wd.one g) (fun i acc _ => Iv i acc) (fun _ _ _ _ _ h => h) (fun _ _ => trivial) (by rw [e]; exact hz) i0 (fun i y acc B' H' hx _ _ w' iv => hs i y acc H' hx w'.bag iv) mt me
    fun D acc H' hD hl wd go iv h => k D acc H' hD (by rw [← e]; exact hl) wd.bag go (by rw [← e]; exact iv) h
theorem var_mono (i : Nat) (σ : L2.St) (H : Hp) (Q1 Q2 : VK) (e : ∀ v H', Q1 v H' → Q2 v H') (h : zVar i σ H Q1) : zVar i σ H Q2 := by
  obtain ⟨v, e0, h⟩ := onV_ex h
  refine (show onV σ[i]? (fun v => Q2 v H) from ?_)
  rw [e0]
  exact e _ _ h
theorem okT_one {x : Str} (h : okT x = true) {c : Nat} (m : c ∈ x.cps.toList) : okT (one c) = true := by
  show ([c] : List Nat).all _ = true
  rw [signIn1]
  exact List.all_eq_true.mp h c m
/-- a list of signs of a text, joined -/
theorem join_signs {K : PySem.W.Frag} {H : Hp} {Q : VK} {z : Str} {D : Addr} {acc : List V} (hz : okT z = true) (hD : H D = some (.lst acc)) (hl : acc.length ≤ 27) (hP : ∀ y ∈ acc, ∃ c, y = V.str (one c) ∧ c ∈ z.cps.toList)
    (q : ∀ x : Str, okT x = true → x.length ≤ 27 → Q (.str x) H) : rJoinZ K (.str "") [.ref D] H Q := by
  obtain ⟨cs, rfl, hcs⟩ := items_of (mk := fun c => V.str (one c)) (P := fun c => c ∈ z.cps.toList) hP
  rw [List.length_map] at hl
  have e : cs.map (fun c => V.str (one c)) = (cs.map one).map V.str := by rw [List.map_map]; rfl
  rw [e] at hD
  refine joinI (sq_of hD) (by rw [sum_ones]; show cs.length + (cs.map one).length * 0 ≤ _; omega) ?_
  rw [join_1s]
  exact q _ (okT_S fun c m => okT_mem hz (hcs c m)) (by rw [SX.S_len]; exact hl)

/-! ### what the law draws: signs -/
def spLSigns (K : PySem.W.Frag) : Sp := fun vs H Q _ => ∃ m : Int, vs = [.int m] ∧ Q (.str (sgOf m)) H
theorem ok_lsigns (T : Tx K mg) (F : FunD K "_law_signs" "_law_signs" (defArgs s_law_signs) (defBody s_law_signs) (defScope s_law_signs) [] [] f fd) : FnG P w K mg base CX0 1 f fd ["_law_many"] (spLSigns K) := by
  refine FnG.of F sc_law_signs (fun vs H Q E h => ?_) (fun cdv A outer s H vs Q E hr gd h => ?_)
  · obtain ⟨m, rfl, _⟩ := h
    rfl
  · obtain ⟨m, rfl, k⟩ := h
    have hu : (A.deeper (envOfC "_law_signs" (defScope s_law_signs) s.heap.objs.size f cdv)).units + 64 < cLine := by have := hr.un; omega
    refine ⟨_, PSs.nox (pss_one
    (ps_ret (pe_slice (sl_K K) pe_str po_none (po_some (zv 0))))), ?_⟩
    try dsimp only [cxOf, Cx.nox]
    show (tRet _) _ [some (.int m)] _
    walk_at "zd"
    exact ⟨m, rfl, by decide, k⟩
theorem so_sub {sg z : Str} {l : List Nat} (h : soD sg (.str z) = true) (s : l.Sublist z.cps.toList) (n : l ≠ []) : soD sg (.str (SX.S l)) = true := by
  obtain ⟨h1, h2⟩ := Bool.and_eq_true_iff.mp h
  obtain ⟨h3, h4⟩ := Bool.and_eq_true_iff.mp h1
  obtain ⟨h5, h6⟩ := Bool.and_eq_true_iff.mp h4
  have el : (SX.S l).cps.toList = l := by simp
  refine Bool.and_eq_true_iff.mpr ⟨Bool.and_eq_true_iff.mpr ⟨?_, Bool.and_eq_true_iff.mpr ⟨?_, ?_⟩⟩, ?_⟩
  · rw [el]
    exact List.all_eq_true.mpr fun c m => List.all_eq_true.mp h3 c (s.subset m)
  · have : SX.S l ≠ "" := fun e => n (SX.S_inj (b := []) e)
    rw [decide_eq_false this]
    rfl
  · rw [el]
    exact lt_rise ((rise_lt h6).sublist s)
  · show (SX.S l).cps.toList.all (inSg sg) = true
    rw [el]
    exact List.all_eq_true.mpr fun c m => List.all_eq_true.mp h2 c (s.subset m)
/-- `take(bag, m) == c` as a test can be weakened -/
theorem draw_monoC (K : PySem.W.Frag) (i : Nat) (m c : V) (σ : L2.St) (H : Hp) (Q1 Q2 : Bool → Hp → Prop) (e : ∀ b H', Q1 b H' → Q2 b H')
    (h : zTest (tOp (rEqZ K id) (tCall (spTake K) [] E0 (tCons (zVar i) (tCons (tC m) tNil))) (tC c)) σ H Q1) : zTest (tOp (rEqZ K id) (tCall (spTake K) [] E0 (tCons (zVar i) (tCons (tC m) tNil))) (tC c)) σ H Q2 := by
  obtain ⟨v0, e0, h⟩ := onV_ex h
  obtain ⟨ω', m', hv, g, a, b, k⟩ := h
  refine (show onV σ[i]? (fun v => spTake K [v, m] H (fun y H2 => rEqZ K id y c H2 fun x H' => onB x fun k => Q2 k H') E0) from ?_)
  rw [e0]
  refine ⟨ω', m', hv, g, a, b, fun v H' p q r t => ?_⟩
  have kk : rEqZ K id (.int v) c H' (fun x H' => onB x fun k => Q1 k H') := k v H' p q r t
  refine eq_mono (fun v H h => ?_) kk
  obtain ⟨b, rfl, h⟩ := onB_ex h
  exact e _ _ h
def spLSome (K : PySem.W.Frag) : Sp := fun vs H Q _ => ∃ (ω : Bg) (z : Str), vs = [.ref ω.b, .str z] ∧ Bag K H ω ∧ 1 ≤ z.length ∧ z.length ≤ 27 ∧ ∀ (l : List Nat) H', l.Sublist z.cps.toList → l ≠ [] → Bag K H' ω → Go ω.b H H' → Q (.str (SX.S l)) H'
theorem ok_lsome (T : Tx K mg) (c_law_take : Cg P w K mg base CX0 1 "_law_take" (spTake K)) (F : FunD K "_law_some" "_law_some" (defArgs s_law_some) (defBody s_law_some) (defScope s_law_some) [] [] f fd) : FnG P w K mg base CX0 2 f fd ["_law_bag_here", "_law_signs_here"] (spLSome K) := by
  refine FnG.of F sc_law_some (fun vs H Q E h => ?_) (fun cdv A outer s H vs Q E hr gd h => ?_)
  · obtain ⟨ω, z, rfl, _⟩ := h
    rfl
  · obtain ⟨ω, z, rfl, g, z1, z2, k⟩ := h
    have hu : (A.deeper (envOfC "_law_some" (defScope s_law_some) s.heap.objs.size f cdv)).units + 64 < cLine := by have := hr.un; omega
    refine ⟨_, PSs.nox (pss_cons
    (ps_set (i := 2) sc_law_some.nd rfl (Or.inl rfl) (pe_joinK K pe_str (pe_lc (own := [("_law_sign", 4)]) rfl sc_law_some.nd (pi_str (zv 1)) (blkOk_by (by kernel_rfl)) (fun _ _ _ _ _ => (pg_name (i := 4) sc_law_some.nd rfl (Or.inl rfl))) (fun _ _ _ _ _ => pts_one (pz_cmp (op_eqK K hu) (pe_cg c_law_take hr gd (by decide) (by rfl) pass0 (pa_cons (zv 0) (pa_cons pe_int pa_nil))) pe_int (nomark _))) (fun _ _ _ _ _ => (zv 4)))))
    (pss_cons
    (ps_set (i := 3) sc_law_some.nd rfl (Or.inl rfl) (pe_ix (ix_K K) (zv 1) (pe_cg c_law_take hr gd (by decide) (by rfl) pass0 (pa_cons (zv 0) (pa_cons (pe_callB (call_lenK K) (by rfl) T.len (by decide +kernel) (pa_cons (zv 1) pa_nil)) pa_nil))) (fun _ _ => rfl)))
    (pss_one
    (ps_ret (pe_orT (zv 2) (pe_one (zv 3))))))), ?_⟩
    try dsimp only [cxOf, Cx.nox]
    show (tSeq _ _) _ [some (.ref ω.b), some (.str z), none, none, none] _
    walk_at "zd"
    refine ⟨⟨_, rfl⟩, comp_strD (x := z) g (fun i acc => ∃ l : List Nat, acc = l.map (fun c => V.str (one c)) ∧ l.Sublist (z.cps.toList.take i)) (fun R r => r) (by omega) ⟨[], rfl, List.nil_sublist _⟩ ?_ (draw_monoC K 0 (.int 2) (.int 0)) (var_mono 4) ?_⟩
    · intro i y acc H' hy g' iv
      obtain ⟨l, rfl, hl⟩ := iv
      walk_at "zd"
      obtain ⟨c, hc, rfl⟩ : ∃ c, z.cps.toList[i]? = some c ∧ y = V.str (one c) := by
        unfold signsV at hy
        rw [List.getElem?_map] at hy
        cases e : z.cps.toList[i]? with
        | none => rw [e] at hy; cases hy
        | some c => rw [e] at hy; cases hy; exact ⟨c, rfl, rfl⟩
      have tk : z.cps.toList.take (i + 1) = z.cps.toList.take i ++ [c] := by rw [List.take_add_one, hc]; rfl
      refine take_n g' (by omega) (by omega) fun j H3 hj g3 go3 => eqI (iteD (fun _ => ?_) fun _ => ?_)
      · refine ⟨g3, go3, l ++ [c], by rw [List.map_append]; rfl, ?_⟩
        rw [tk]
        exact hl.append (List.Sublist.refl _)
      · refine ⟨g3, go3, l, rfl, ?_⟩
        rw [tk]
        exact hl.trans (List.sublist_append_left _ _)
    · intro D acc H' hD hl g1 go1 iv h1
      obtain ⟨l, rfl, hs⟩ := iv
      rw [← str_len, List.take_length] at hs
      have e : l.map (fun c => V.str (one c)) = (l.map one).map V.str := by rw [List.map_map]; rfl
      rw [e] at h1
      rw [List.length_map] at hl
      refine joinI (sq_of h1) (by rw [sum_ones]; show l.length + (l.map one).length * 0 ≤ _; omega) ?_
      rw [join_1s]
      refine lenS (by exact line5 (by omega)) ?_
      refine take_n g1 (by omega) (by omega) fun j H2 hj g2 go2 => ?_
      refine ixS (by exact line5 (by omega)) (by omega) fun c hc => ?_
      refine ⟨_, ⟨by rw [SX.S_len]; exact line5 (by omega), rfl⟩, ?_⟩
      cases l with
      | nil =>
        rw [if_neg (by decide)]
        exact k [c] H2 (List.singleton_sublist.mpr hc) (by simp) g2 (go1.trans go2)
      | cons d l =>
        rw [if_pos (by rw [SX.S_len, List.length_cons]; simp; omega)]
        exact k (d :: l) H2 hs (by simp) g2 (go1.trans go2)

/-! ### rows drawn -/
/-- signs that rows are drawn of -/
structure SgH (m : Int) (z : Str) : Prop where
  so : soD (sgOf m) (.str z) = true
  l1 : 1 ≤ z.length
  l2 : z.length ≤ 5
theorem SgH.text {m : Int} {z : Str} (h : SgH m z) {l : List Nat} (s : ∀ c ∈ l, c ∈ z.cps.toList) {n : Nat} (e : l.length = n) : textD (sgOf m) n (.str (SX.S l)) = true := by
  obtain ⟨_, h2⟩ := Bool.and_eq_true_iff.mp h.so
  refine Bool.and_eq_true_iff.mpr ⟨?_, decide_eq_true ?_⟩
  · show (SX.S l).cps.toList.all (inSg (sgOf m)) = true
    have el : (SX.S l).cps.toList = l := by simp
    rw [el]
    exact List.all_eq_true.mpr fun c q => List.all_eq_true.mp h2 c (s c q)
  · show (((SX.S l).length : Nat) : Int) = n
    rw [SX.S_len, e]
/-- small data without dicts -/
structure Sm (R n : Nat) (d : PyData) : Prop where
  nice : Nice R n d
  nod : d.hasDict = false
theorem nice_tight {R R' n : Nat} {d : PyData} (h : Nice R n d) (e : d.weight ≤ R') : Nice R' n d := ⟨h.sh, h.lv, e, h.dp, h.ly⟩
theorem int_facts : ∀ i : Fin 128, (PyData.int (i.val : Nat)).showable = true ∧ (PyData.int (i.val : Nat)).leavesShort 600 = true ∧ (PyData.int (i.val : Nat)).weight ≤ 7 ∧ (PyData.int (i.val : Nat)).depth ≤ 0 ∧ (PyData.int (i.val : Nat)).canLay0 = true ∧ (i.val < 16 → (PyData.int (i.val : Nat)).weight ≤ 4) := by decide +kernel
theorem nice_num {i : Nat} (h : i < 128) (n : Nat) : Nice 7 n (.int (i : Int)) := by
  obtain ⟨h1, h2, h3, h4, h5, _⟩ := int_facts ⟨i, h⟩
  exact ⟨h1, h2, h3, Nat.le_trans h4 (Nat.zero_le _), fun _ => h5⟩
theorem w_num {i : Nat} (h : i < 16) : (PyData.int (i : Int)).weight ≤ 4 := (int_facts ⟨i, by omega⟩).2.2.2.2.2 h
theorem w_str (x : Str) : PyData.weight (.str x) = x.length := by simp only [PyData.weight]; rfl
theorem w_tup (l : List PyData) : PyData.weight (.tuple l) = PyData.weightAll l := by simp only [PyData.weight]
theorem w_lst (l : List PyData) : PyData.weight (.list l) = PyData.weightAll l := by simp only [PyData.weight]
theorem w_cons (d : PyData) (l : List PyData) : PyData.weightAll (d :: l) = d.weight + 1 + PyData.weightAll l := by simp only [PyData.weightAll]
theorem w_nil : PyData.weightAll [] = 0 := by simp only [PyData.weightAll]
theorem so_okS {sg x : Str} (h : soD sg (.str x) = true) : okS x = true := by
  obtain ⟨h1, _⟩ := Bool.and_eq_true_iff.mp h
  obtain ⟨h3, _⟩ := Bool.and_eq_true_iff.mp h1
  have z : ∀ d ∈ sgA.cps.toList, d < 128 := by decide
  exact okT_okS (List.all_eq_true.mpr fun c m => decide_eq_true (z c (of_decide_eq_true (List.all_eq_true.mp h3 c m))))

theorem SgH.sub {m : Int} {z : Str} (h : SgH m z) {l : List Nat} (s : l.Sublist z.cps.toList) (n : l ≠ []) : soD (sgOf m) (.str (SX.S l)) = true ∧ (SX.S l).length ≤ 5 := by
  refine ⟨so_sub h.so s n, ?_⟩
  rw [SX.S_len]
  have := s.length_le
  rw [str_len] at this
  have := h.l2
  omega

/-! ### rows drawn, of cells and of blocks -/
theorem tha_ex {K : PySem.W.Frag} {G : Hp} {C : PyData → Prop} : ∀ {acc : List V}, (∀ y ∈ acc, ∃ d, Th K G y d ∧ C d) → ∃ ds, ThA K G acc ds ∧ ∀ d ∈ ds, C d
  | [], _ => ⟨[], .nil, fun d m => by cases m⟩
  | y :: acc, h => by
    obtain ⟨d, h1, h2⟩ := h y List.mem_cons_self
    obtain ⟨ds, h3, h4⟩ := tha_ex (acc := acc) fun y m => h y (List.mem_cons_of_mem _ m)
    exact ⟨d :: ds, .cons h1 h3, fun e m => by
      rcases List.mem_cons.mp m with rfl | m
      · exact h2
      · exact h4 e m⟩
theorem w_all {R : Nat} : ∀ {ds : List PyData}, (∀ d ∈ ds, d.weight ≤ R) → PyData.weightAll ds ≤ ds.length * (R + 1)
  | [], _ => by rw [w_nil]; omega
  | d :: ds, h => by
    have h1 := h d List.mem_cons_self
    have h2 := w_all (ds := ds) fun e m => h e (List.mem_cons_of_mem _ m)
    rw [w_cons, List.length_cons, Nat.add_mul]
    omega
theorem nod_all : ∀ {ds : List PyData}, (∀ d ∈ ds, d.hasDict = false) → PyData.hasDictAll ds = false
  | [], _ => by simp only [PyData.hasDictAll]
  | d :: ds, h => by simp only [PyData.hasDictAll, h d List.mem_cons_self, nod_all (ds := ds) fun e m => h e (List.mem_cons_of_mem _ m), Bool.or_self]

def spLBlock (K : PySem.W.Frag) : Sp := fun vs H Q _ => ∃ (ω : Bg) (m : Int) (z : Str) (B : Addr → Bool), vs = [.ref ω.b, .str z] ∧ Wd K B ω H ∧ SgH m z ∧ ∀ v d H', blockD (sgOf m) d = true → Sm 193 3 d → Bag K H' ω → Go ω.b H H' → Th K (hd B H') v d → Q v H'
theorem ok_lblock (T : Tx K mg) (c_law_take : Cg P w K mg base CX0 1 "_law_take" (spTake K)) (c_law_some : Cg P w K mg base CX0 2 "_law_some" (spLSome K)) (F : FunD K "_law_block_row" "_law_block_row" (defArgs s_law_block_row) (defBody s_law_block_row) (defScope s_law_block_row) [] [] f fd) : FnG P w K mg base CX0 3 f fd ["_law_bag_here", "_law_signs_here"] (spLBlock K) := by
  refine FnG.of F sc_law_block_row (fun vs H Q E h => ?_) (fun cdv A outer s H vs Q E hr gd h => ?_)
  · obtain ⟨ω, m, z, B, rfl, _⟩ := h
    rfl
  · obtain ⟨ω, m, z, B, rfl, wd, hz, k⟩ := h
    have hu : (A.deeper (envOfC "_law_block_row" (defScope s_law_block_row) s.heap.objs.size f cdv)).units + 64 < cLine := by have := hr.un; omega
    refine ⟨_, PSs.nox (pss_cons
    (ps_set (i := 2) sc_law_block_row.nd rfl (Or.inl rfl) (pe_callTy (call_tupleK K) (by rfl) T.tuple (by decide +kernel) (pa_cons (pe_lc (own := [("_law_k", 3)]) rfl sc_law_block_row.nd (pi_range1 (by rfl) T.range (pa_cons pe_int pa_nil)) (blkOk_by (by kernel_rfl)) (fun _ _ _ _ _ => (pg_name (i := 3) sc_law_block_row.nd rfl (Or.inl rfl))) (fun _ _ _ _ _ => pts_nil) (fun _ _ _ _ _ => (pe_cg c_law_some hr gd (by decide) (by rfl) pass0 (pa_cons (zv 0) (pa_cons (zv 1) pa_nil))))) pa_nil)))
    (pss_one
    (ps_ret (pe_tup (pa_cons (zv 2) (pa_cons (pe_joinK K pe_str (pe_lc (own := [("_law_k", 3)]) rfl sc_law_block_row.nd (pi_range1 (by rfl) T.range (pa_cons pe_int pa_nil)) (blkOk_by (by kernel_rfl)) (fun _ _ _ _ _ => (pg_name (i := 3) sc_law_block_row.nd rfl (Or.inl rfl))) (fun _ _ _ _ _ => pts_nil) (fun _ _ _ _ _ => (pe_ix (ix_K K) (zv 1) (pe_cg c_law_take hr gd (by decide) (by rfl) pass0 (pa_cons (zv 0) (pa_cons (pe_callB (call_lenK K) (by rfl) T.len (by decide +kernel) (pa_cons (zv 1) pa_nil)) pa_nil))) (fun _ _ => rfl))))) pa_nil)))))), ?_⟩
    try dsimp only [cxOf, Cx.nox]
    show (tSeq _ _) _ [some (.ref ω.b), some (.str z), none, none] _
    walk_at "zd"
    have z5 := hz.l2
    have z1 := hz.l1
    refine comp_rngD B wd (fun _ y _ => ∃ l : List Nat, y = .str (SX.S l) ∧ l.Sublist z.cps.toList ∧ l ≠ []) (fun _ _ _ _ _ h => h) 4 (by decide) (fun R r => r) ?_ ?_
    · intro i B' H' hi hB s' w' Q' q
      walk_at "zd"
      exact ⟨ω, z, rfl, w'.bag, hz.l1, by omega, fun l Hf sl nl gf gof => q _ Hf gf gof ⟨l, rfl, sl, nl⟩⟩
    intro D acc H1 hD hl hP wd1 go1 h1
    refine ⟨_, .inl ⟨sq_of h1, fun t ht => ?_⟩⟩
    have s2 := same_new (o := .tup acc) ht
    have et : upd H1 t (.tup acc) t = some (.tup acc) := upd_same
    have w2 := wd1.same s2
    have go2 := go1.trans (Go.of (b := ω.b) s2)
    have nt : t ≠ ω.b := bag_ne wd1.bag ht
    have ft : B t = false := wd1.off ht
    revert s2 et w2 go2
    generalize upd H1 t (.tup acc) = H2
    intro s2 et w2 go2
    walk_at "zd"
    refine ⟨⟨_, rfl⟩, ?_⟩
    refine comp_rngD B w2 (fun _ y _ => ∃ c, y = V.str (one c) ∧ c ∈ z.cps.toList) (fun _ _ _ _ _ h => h) 4 (by decide) (fun R r => r) ?_ ?_
    · intro i B' H' hi hB s' w' Q' q
      walk_at "zd"
      refine lenS (by exact line5 (by omega)) ?_
      refine take_n w'.bag (by omega) (by omega) fun j H4 hj g4 go4 => ?_
      exact ixS (by exact line5 (by omega)) (by omega) fun c hc => q _ H4 g4 go4 ⟨c, rfl, hc⟩
    intro D2 acc2 H3 hD2 hl2 hP2 wd3 go3 h3
    obtain ⟨cs, rfl, hcs⟩ := items_of (mk := fun c => V.str (one c)) (P := fun c => c ∈ z.cps.toList) (mem_of_get fun i y e => hP2 i y e)
    rw [List.length_map] at hl2
    have e2 : cs.map (fun c => V.str (one c)) = (cs.map one).map V.str := by rw [List.map_map]; rfl
    rw [e2] at h3
    refine joinI (sq_of h3) (by rw [sum_ones]; show cs.length + (cs.map one).length * 0 ≤ _; omega) ?_
    rw [join_1s]
    refine ⟨line5 (show 2 ≤ 100000 by decide), fun r hr1 => ?_⟩
    have goA := (go2.trans go3).trans (Go.of (b := ω.b) (same_new (o := .tup [.ref t, .str (SX.S cs)]) hr1))
    have b7 : B r = false := wd3.off hr1
    obtain ⟨ds, hA, hds⟩ := tha_ex (K := K) (G := hd B H2) (C := fun d => soD (sgOf m) d = true ∧ ∃ x, d = .str x ∧ x.length ≤ 5) (acc := acc) fun y my => by
      obtain ⟨i, hi⟩ := List.getElem?_of_mem my
      obtain ⟨l, rfl, sl, nl⟩ := hP i y hi
      obtain ⟨c1, c2⟩ := hz.sub sl nl
      exact ⟨_, .str _, c1, _, rfl, c2⟩
    have dl : ds.length = 4 := by rw [← hA.len]; exact hl
    have et3 : hd B (upd H3 r (.tup [.ref t, .str (SX.S cs)])) t = some (.tup acc) := hd_of ft (same_new hr1 _ _ (go3 _ _ nt et))
    refine k (.ref r) (.tuple [.tuple ds, .str (SX.S cs)]) _ ?_ ?_ (wd3.bag.same (same_new hr1)) goA (.tup (st_of (hd_of b7 upd_same)) (.cons (.tup (st_of et3) (ThA.mono ?_ _ _ hA)) (.cons (.str _) .nil)))
    · show (foursD (sgOf m) (.tuple ds) && textD (sgOf m) 4 (.str (SX.S cs))) = true
      have ht4 : textD (sgOf m) 4 (.str (SX.S cs)) = true := hz.text hcs (n := 4) hl2
      rw [ht4, Bool.and_true]
      show (decide ((ds.length : Int) = 4) && ds.all (soD (sgOf m))) = true
      rw [dl, List.all_eq_true.mpr fun d md => (hds d md).1]
      rfl
    · have nd : ∀ d ∈ ds, Nice 5 0 d := fun d md => by
        obtain ⟨c1, x, rfl, hx⟩ := hds d md
        exact nice_str (so_okS c1) hx 0
      have sgo : okS (SX.S cs) = true := by
        have h := hz.text hcs (n := 4) hl2
        obtain ⟨h1, _⟩ := Bool.and_eq_true_iff.mp h
        have z0 : ∀ d ∈ sgA.cps.toList, d < 128 := by decide
        obtain ⟨h2, _⟩ := Bool.and_eq_true_iff.mp hz.so
        obtain ⟨h3, _⟩ := Bool.and_eq_true_iff.mp h2
        refine okT_okS (okT_S fun c mc => z0 c (of_decide_eq_true (List.all_eq_true.mp h3 c (hcs c mc))))
      refine ⟨Nice.tuple (R := 30) (n := 2) (fun d md => ?_) (show 2 * 31 ≤ 193 by decide), ?_⟩
      · simp only [List.mem_cons, List.not_mem_nil, or_false] at md
        rcases md with rfl | rfl
        · exact (Nice.tuple nd (by rw [dl]; decide)).mono (Nat.le_refl _) (by decide)
        · exact nice_str sgo (by rw [SX.S_len]; omega) 2
      · simp only [PyData.hasDict, PyData.hasDictAll, Bool.or_false]
        exact nod_all fun d md => by
          obtain ⟨_, x, rfl, _⟩ := hds d md
          simp only [PyData.hasDict]
    · exact (go3.trans (Go.of (b := ω.b) (same_new hr1))).hd w2.hb

/-! ### the law's own blocks -/
theorem fit4 {hs : List Str} {x : Str} (hl : hs.length = 4) (xl : x.length = 4) : ((List.range 4).map fun i => decide (x.cps.toList.getD i 0 ∈ (hs.getD i "").cps.toList)).all id = fitB hs x := by
  obtain ⟨⟨l⟩⟩ := x
  match hs, hl, l, xl with
  | [h0, h1, h2, h3], _, [c0, c1, c2, c3], _ => rfl
/-- parts: many, rows -/
structure PtB (K : PySem.W.Frag) (G : Hp) (t : Addr) (ds : List PyData) : Prop where
  ex : ∃ v0 v1 v2 r0 xs, G t = some (.tup [v0, v1, v2, .ref r0]) ∧ G r0 = some (.lst xs) ∧ ThA K G xs ds
theorem PtB.same {K : PySem.W.Frag} {G G' : Hp} {t : Addr} {ds : List PyData} (p : PtB K G t ds) (s : Same G G') : PtB K G' t ds := by
  obtain ⟨v0, v1, v2, r0, xs, h1, h3, h4⟩ := p.ex
  exact ⟨v0, v1, v2, r0, xs, s _ _ h1, s _ _ h3, ThA.mono s _ _ h4⟩
def spLBlk (K : PySem.W.Frag) : Sp := fun vs H Q _ => ∃ (t : Addr) (m : Int) (ns : List Str) (ds : List PyData) (x : Str), vs = [.ref t, .str x] ∧ PtB K H t ds ∧ RlP "blocks" m ns ds ∧ FourOk m x ∧ ∀ H', Same H H' → Q (.str (blkD x ds)) H'
theorem ok_lblk (T : Tx K mg) (F : FunD K "_law_block" "_law_block" (defArgs s_law_block) (defBody s_law_block) (defScope s_law_block) [] [] f fd) : FnG P w K mg base CX0 1 f fd ["_law_rule", "_law_four"] (spLBlk K) := by
  refine FnG.of F sc_law_block (fun vs H Q E h => ?_) (fun cdv A outer s H vs Q E hr gd h => ?_)
  · obtain ⟨t, m, ns, ds, x, rfl, _⟩ := h
    rfl
  · obtain ⟨t, m, ns, ds, x, rfl, hP, hp, hx, k⟩ := h
    have hu : (A.deeper (envOfC "_law_block" (defScope s_law_block) s.heap.objs.size f cdv)).units + 64 < cLine := by have := hr.un; omega
    refine ⟨_, PSs.nox (pss_cons
    (ps_for PassesOwn.never rfl (pi_listK K (pe_ix (ix_K K) (zv 0) pe_int (fun _ _ => rfl))) (pg_tupK K 2 (pgs_cons (pg_name (i := 2) sc_law_block.nd rfl (Or.inr rfl)) (pgs_cons (pg_name (i := 3) sc_law_block.nd rfl (Or.inl rfl)) pgs_nil)))
      (pss_one
        (ps_if (pz_val (pe_callB (call_allK K) (by rfl) T.all (by decide +kernel) (pa_cons (pe_lc (own := [("_law_k", 4)]) rfl sc_law_block.nd (pi_range1 (by rfl) T.range (pa_cons pe_int pa_nil)) (blkOk_by (by kernel_rfl)) (fun _ _ _ _ _ => (pg_name (i := 4) sc_law_block.nd rfl (Or.inl rfl))) (fun _ _ _ _ _ => pts_nil) (fun _ _ _ _ _ => (pe_cmpR (op_inK K) (pe_ix (ix_K K) (zv 1) (zv 4) (fun _ _ => rfl)) (pe_ix (ix_K K) (zv 2) (zv 4) (fun _ _ => rfl)) (by with_unfolding_all rfl)))) pa_nil)))
          (pss_one
            (ps_ret (zv 3)))
          pss_nil)))
    (pss_one
    (ps_ret (zv 1)))), ?_⟩
    try dsimp only [cxOf, Cx.nox]
    show (tSeq _ _) _ [some (.ref t), some (.str x), none, none, none] _
    walk_at "zd"
    obtain ⟨v0, v1, v2, r0, xs, et, er, hA⟩ := hP.ex
    have hxl := hx.len
    refine for_lst ?_
    walk_at "zd"
    refine ixT (i := 3) (st_of et) (atI_nat (j := 3) rfl) ⟨r0, rfl, ⟨_, sq_of er⟩, for_list (K := K) (a := r0) (xs := xs) (fun i σ H' => Same H H' ∧ (∃ x2 x3 x4, σ = [some (.ref t), some (.str x), x2, x3, x4]) ∧ blkD x ds = blkD x (ds.drop i)) ⟨Same.refl _, ⟨_, _, _, rfl⟩, rfl⟩ (fun i σ H' _ h => h.1.seq (sq_of er)) ?_ ?_⟩
    · rintro i v σ H' hv ⟨s', ⟨x2, x3, x4, rfl⟩, hi⟩
      obtain ⟨d, hd1, ty⟩ := hA.get hv
      have ty' := ty.mono s'
      have hrow := (hp.row d (List.mem_of_getElem? hd1)).2
      unfold rowD at hrow
      rw [if_pos rfl] at hrow
      obtain ⟨hs, y, rfl, hhs, hy, _⟩ := block_full hrow
      obtain ⟨b, ys, es, q1, rfl, hS, hTs⟩ := th_tup ty' rfl
      cases q1
      obtain ⟨y0, y1, rfl, t0, t1⟩ := tha2 hTs
      cases t1
      obtain ⟨bf, yf, es, q1, rfl, hSf, hTf⟩ := th_tup t0 rfl
      cases q1
      have dr : ds.drop i = .tuple [.tuple (hs.map .str), .str y] :: ds.drop (i + 1) := by
        have hlt := (List.getElem?_eq_some_iff.mp hd1).1
        rw [List.drop_eq_getElem_cons hlt, (List.getElem?_eq_some_iff.mp hd1).2]
      have eb : blkD x (ds.drop i) = if fitB hs x = true then y else blkD x (ds.drop (i + 1)) := by rw [dr, blk_step]
      refine ⟨b, _, rfl, hS, rfl, .ref bf, _, rfl, _, [], rfl, rfl, ?_⟩
      walk_at "zd"
      refine comp_rngP 4 (fun i => V.bl (decide (x.cps.toList.getD i 0 ∈ (hs.getD i "").cps.toList))) (by decide) (fun R r => r) ?_ ?_
      · intro j hj H3 s3 Q' q
        walk_at "zd"
        have hj1 : j < x.cps.toList.length := by rw [str_len]; omega
        have hj2 : j < hs.length := by omega
        refine ⟨j, x.cps.toList.getD j 0, rfl, line5 (by omega), atI_nat (by rw [List.getD_eq_getElem?_getD, List.getElem?_eq_getElem hj1]; rfl), ?_⟩
        obtain ⟨v, hv1, tv⟩ := hTf.at_ (i := j) (d := .str (hs.getD j "")) (by rw [List.getElem?_map, List.getD_eq_getElem?_getD, List.getElem?_eq_getElem hj2]; rfl)
        cases tv
        exact ixT (i := (j : Int)) (Same.tup s3 hSf) (atI_nat hv1) (inS (K := K) (q H3 (Same.refl _)))
      intro D H4 hD s4 h4
      have h4' : H4 D = some (.lst (((List.range 4).map fun i => decide (x.cps.toList.getD i 0 ∈ (hs.getD i "").cps.toList)).map V.bl)) := by rw [h4, List.map_map]; rfl
      refine allL (sq_of h4') (fit4 hhs hxl) ?_
      cases ea : fitB hs x with
      | true =>
        rw [ea, if_pos rfl] at eb
        refine iteT ?_
        have kk := k H4 (s'.trans s4)
        rw [hi, eb] at kk
        exact kk
      | false =>
        rw [ea, if_neg Bool.false_ne_true] at eb
        refine iteF ?_
        exact ⟨s'.trans s4, ⟨_, _, _, rfl⟩, by rw [hi, eb]⟩
    · rintro σ H' ⟨s', ⟨x2, x3, x4, rfl⟩, hi⟩
      walk_at "zd"
      have kk := k H' s'
      rw [hi, hA.len, List.drop_length] at kk
      exact kk

/-! ### blocks, drawn -/
structure SgR (m : Int) (z : Str) : Prop where
  sub : ∀ c ∈ z.cps.toList, c ∈ (sgOf m).cps.toList
  l1 : 1 ≤ z.length
  l2 : z.length ≤ 27
theorem hd_mut {B : Addr → Bool} {H : Hp} {p : Addr} {o : HO} (hb : B p = true) : Same (hd B H) (hd B (upd H p o)) := fun a u z => by
  obtain ⟨h1, h2⟩ := hd_some z
  exact hd_of h1 (by rw [upd_ne (fun e => by rw [e, hb] at h1; cases h1)]; exact h2)
theorem wd_mut {K : PySem.W.Frag} {B : Addr → Bool} {ω : Bg} {H0 H : Hp} {D : Addr} {o : HO} (h : Wd K B ω H) (g0 : Bag K H0 ω) (hD : H0 D = none) : Wd K B ω (upd H D o) := ⟨bag_mut g0 hD h.bag, h.hb, fun a z => by
  by_cases e : a = D
  · rw [e, upd_same]
    exact Option.some_ne_none _
  · rw [upd_ne e]
    exact h.hB a z⟩
theorem catS {K : PySem.W.Frag} {i j : Str} {H : Hp} {Q : VK} (h : i.length + j.length ≤ 100000) (q : Q (.str (i ++ j)) H) : rAddZ (.str i) (.str j) H Q := ⟨line5 h, q⟩
theorem mul_small {x : Str} {n : Int} (h0 : 0 ≤ n) (h1 : n ≤ 1000) (h2 : x.length ≤ 10000) : MulOk x n := by
  have hn : x.length * n.toNat ≤ 10000 * 1000 := Nat.mul_le_mul h2 (by omega)
  refine ⟨?_, fun _ _ h => ?_, fun _ _ => ?_⟩
  · rw [Bool.or_eq_false_iff]
    exact ⟨decide_eq_false (by omega), decide_eq_false (by omega)⟩
  · by_cases z : n = 0
    · subst z
      omega
    · have : (2 ^ 63 - 1 : Int) / 1000 ≤ (2 ^ 63 - 1) / n := by
        rw [Int.le_ediv_iff_mul_le (by omega)]
        have : (2 ^ 63 - 1 : Int) / 1000 * n ≤ (2 ^ 63 - 1 : Int) / 1000 * 1000 := Int.mul_le_mul_of_nonneg_left h1 (by decide)
        omega
      omega
  · unfold Builtin.Str.tooLong
    rw [decide_eq_false_iff_not, sizeLine_eq]
    omega
theorem mul_one {c n : Nat} (h : n ≤ 100) : MulOk (one c) (n : Int) ∧ Txt.mul (one c) (n : Int) = SX.S (List.replicate n c) := by
  refine ⟨mul_small (by omega) (by omega) (show 1 ≤ 10000 by decide), ?_⟩
  have z := PyProof.Rows.mul_one_list c (n : Int)
  rw [Int.toNat_natCast] at z
  show Txt.mul ⟨#[c]⟩ (n : Int) = _
  rw [← z, SX.S_tl]
theorem four_of {K : PySem.W.Frag} {H : Hp} {Q : VK} {D : Addr} {acc : List V} {z : Str} {m : Int} (hD : H D = some (.lst acc)) (hl : acc.length = 4) (hP : ∀ y ∈ acc, ∃ c, y = V.str (one c) ∧ c ∈ z.cps.toList) (hz : SgR m z)
    (q : ∀ x, FourOk m x → Q (.str x) H) : rJoinZ K (.str "") [.ref D] H Q := by
  obtain ⟨cs, rfl, hcs⟩ := items_of (mk := fun c => V.str (one c)) (P := fun c => c ∈ z.cps.toList) hP
  rw [List.length_map] at hl
  have e : cs.map (fun c => V.str (one c)) = (cs.map one).map V.str := by rw [List.map_map]; rfl
  rw [e] at hD
  refine joinI (sq_of hD) (by rw [sum_ones]; show cs.length + (cs.map one).length * 0 ≤ _; omega) ?_
  rw [join_1s]
  refine q _ ⟨by rw [SX.S_len, hl], fun c mc => ?_⟩
  have mc : c ∈ cs := by simpa using mc
  exact hz.sub c (hcs c mc)
theorem four_rep {m : Int} {c : Nat} (h : c ∈ (sgOf m).cps.toList) : FourOk m (SX.S (List.replicate 4 c)) := by
  refine ⟨by rw [SX.S_len, List.length_replicate], fun d md => ?_⟩
  have md : d ∈ List.replicate 4 c := by simpa using md
  rw [List.eq_of_mem_replicate md]
  exact h
theorem four_put {m : Int} {ar : Str} {c j : Nat} (h : FourOk m ar) (hc : c ∈ (sgOf m).cps.toList) (hj : j < 4) : FourOk m ((Txt.slice ar none (some (j : Int)) ++ one c) ++ Txt.slice ar (some ((j : Int) + 1)) none) := by
  have hl := h.len
  have ej : (j : Int) + 1 = ((j + 1 : Nat) : Int) := by omega
  rw [ej, to_S ar (by omega), from_S ar (by omega)]
  have e1 : one c = SX.S [c] := rfl
  rw [e1, SX.S_cat, SX.S_cat, Int.toNat_natCast, Int.toNat_natCast]
  refine ⟨?_, fun d md => ?_⟩
  · rw [SX.S_len, List.length_append, List.length_append, List.length_take, List.length_drop, str_len]
    simp
    omega
  · have md : d ∈ (ar.cps.toList.take j ++ [c]) ++ ar.cps.toList.drop (j + 1) := by simpa using md
    rcases List.mem_append.mp md with md | md
    · rcases List.mem_append.mp md with md | md
      · exact h.sub d (List.mem_of_mem_take md)
      · rw [List.mem_singleton.mp md]
        exact hc
    · exact h.sub d (List.mem_of_mem_drop md)
/-- what stays while blocks are drawn: F is filled -/
structure KpB (K : PySem.W.Frag) (B : Addr → Bool) (ω : Bg) (H : Hp) (F : Addr) (m : Int) (ss : List Str) (H' : Hp) : Prop where
  wd : Wd K B ω H'
  go : Go ω.b H H'
  eF : H' F = some (.lst (ss.map V.str))
  ne : ss ≠ []
  ok : ∀ x ∈ ss, FourOk m x
theorem KpB.mv {K : PySem.W.Frag} {B : Addr → Bool} {ω : Bg} {H : Hp} {F : Addr} {m : Int} {ss : List Str} {H8 H9 : Hp} (h : KpB K B ω H F m ss H8) (g9 : Bag K H9 ω) (go9 : Go ω.b H8 H9) (nF : F ≠ ω.b) : KpB K B ω H F m ss H9 :=
  ⟨h.wd.go g9 go9, h.go.trans go9, go9 _ _ nF h.eF, h.ne, h.ok⟩
def spBlks (K : PySem.W.Frag) : Sp := fun vs H Q _ => ∃ (ω : Bg) (m : Int) (z : Str) (B : Addr → Bool), vs = [.ref ω.b, .str z] ∧ Wd K B ω H ∧ SgR m z ∧ FourOk m "...." ∧ ∀ (F : Addr) (ss : List Str) (H' : Hp), Bag K H' ω → Go ω.b H H' → hd B H' F = some (.lst (ss.map V.str)) → ss.length ≤ 31 → (∀ x ∈ ss, FourOk m x) → Q (.ref F) H'
theorem ok_blks (T : Tx K mg) (c_law_take : Cg P w K mg base CX0 1 "_law_take" (spTake K)) (F : FunD K "_law_blocks" "_law_blocks" (defArgs s_law_blocks) (defBody s_law_blocks) (defScope s_law_blocks) [] [] f fd) : FnG P w K mg base CX0 2 f fd ["_law_bag_here", "_law_signs_here"] (spBlks K) := by
  refine FnG.of F sc_law_blocks (fun vs H Q E h => ?_) (fun cdv A outer s H vs Q E hr gd h => ?_)
  · obtain ⟨ω, m, z, B, rfl, _⟩ := h
    rfl
  · obtain ⟨ω, m, z, B, rfl, wd, hz, h4, k⟩ := h
    have hu : (A.deeper (envOfC "_law_blocks" (defScope s_law_blocks) s.heap.objs.size f cdv)).units + 64 < cLine := by have := hr.un; omega
    refine ⟨_, PSs.nox (pss_cons
    (ps_set (i := 2) sc_law_blocks.nd rfl (Or.inl rfl) (pe_lst (pa_cons pe_str pa_nil)))
    (pss_cons
    (ps_for PassesOwn.never rfl (pi_range1 (by rfl) T.range (pa_cons pe_int pa_nil)) (pg_name (i := 3) sc_law_blocks.nd rfl (Or.inl rfl))
      (pss_cons
        (ps_set (i := 4) sc_law_blocks.nd rfl (Or.inl rfl) (pe_joinK K pe_str (pe_lc (own := [("_law_j", 7)]) rfl sc_law_blocks.nd (pi_range1 (by rfl) T.range (pa_cons pe_int pa_nil)) (blkOk_by (by kernel_rfl)) (fun _ _ _ _ _ => (pg_name (i := 7) sc_law_blocks.nd rfl (Or.inl rfl))) (fun _ _ _ _ _ => pts_nil) (fun _ _ _ _ _ => (pe_ix (ix_K K) (zv 1) (pe_cg c_law_take hr gd (by decide) (by rfl) pass0 (pa_cons (zv 0) (pa_cons (pe_callB (call_lenK K) (by rfl) T.len (by decide +kernel) (pa_cons (zv 1) pa_nil)) pa_nil))) (fun _ _ => rfl))))))
        (pss_cons
        (ps_set (i := 5) sc_law_blocks.nd rfl (Or.inl rfl) (pe_cg c_law_take hr gd (by decide) (by rfl) pass0 (pa_cons (zv 0) (pa_cons pe_int pa_nil))))
        (C8.pss_cut
        (ps_if (pz_cmp (op_eqK K hu) (zv 5) pe_int (nomark _))
          (pss_one
            (ps_set (i := 4) sc_law_blocks.nd rfl (Or.inl rfl) (pe_op op_mulZ (pe_ix (ix_K K) (zv 1) (pe_cg c_law_take hr gd (by decide) (by rfl) pass0 (pa_cons (zv 0) (pa_cons (pe_callB (call_lenK K) (by rfl) T.len (by decide +kernel) (pa_cons (zv 1) pa_nil)) pa_nil))) (fun _ _ => rfl)) pe_int)))
          pss_nil)
        (C8.pss_cut
        (ps_if (pz_cmp (op_eqK K hu) (zv 5) pe_int (nomark _))
          (pss_cons
            (ps_set (i := 6) sc_law_blocks.nd rfl (Or.inl rfl) (pe_cg c_law_take hr gd (by decide) (by rfl) pass0 (pa_cons (zv 0) (pa_cons pe_int pa_nil))))
            (pss_one
            (ps_set (i := 4) sc_law_blocks.nd rfl (Or.inl rfl) (pe_op op_addZ (pe_op op_addZ (pe_slice (sl_K K) (pe_ix (ix_K K) (zv 2) (pe_un un_negZ pe_int) (fun _ _ => rfl)) po_none (po_some (zv 6))) (pe_ix (ix_K K) (zv 1) (pe_cg c_law_take hr gd (by decide) (by rfl) pass0 (pa_cons (zv 0) (pa_cons (pe_callB (call_lenK K) (by rfl) T.len (by decide +kernel) (pa_cons (zv 1) pa_nil)) pa_nil))) (fun _ _ => rfl))) (pe_slice (sl_K K) (pe_ix (ix_K K) (zv 2) (pe_un un_negZ pe_int) (fun _ _ => rfl)) (po_some (pe_op op_addZ (zv 6) pe_int)) po_none)))))
          pss_nil)
        (pss_one
        (ps_expr (pe_bm PySem.F.plainAttrs_list PySem.F.slot_list_append PySem.F.type_list_append mt_append (zv 2) (pa_cons (zv 4) pa_nil)))))))))
    (pss_one
    (ps_ret (zv 2))))), ?_⟩
    try dsimp only [cxOf, Cx.nox]
    show (tSeq _ _) _ [some (.ref ω.b), some (.str z), none, none, none, none, none, none] _
    walk_at "zd"
    have z1 := hz.l1
    have z2 := hz.l2
    refine ⟨line5 (show 1 ≤ 100000 by decide), fun F hF => ?_⟩
    have sF := same_new (o := .lst [V.str "...."]) hF
    have nF : F ≠ ω.b := bag_ne wd.bag hF
    have kp0 : KpB K B ω H F m ["...."] (upd H F (.lst [V.str "...."])) := ⟨wd.same sF, Go.of sF, upd_same, by simp, fun x mx => by rw [List.mem_singleton.mp mx]; exact h4⟩
    revert kp0
    generalize upd H F (.lst [V.str "...."]) = H0
    intro kp0
    refine for_rng ?_
    walk_at "zd"
    refine ⟨30, rfl, by decide, by decide, ?_⟩
    refine for_range (lo := 0) (n := 30) (fun i σ H' => ∃ ss x3 x4 x5 x6 x7, σ = [some (.ref ω.b), some (.str z), some (.ref F), x3, x4, x5, x6, x7] ∧ ss.length ≤ i + 1 ∧ KpB K B ω H F m ss H') ⟨["...."], none, none, none, none, none, rfl, Nat.le_refl _, kp0⟩ ?_ ?_
    rotate_left
    · rintro σ H8 ⟨ss, x3, x4, x5, x6, x7, rfl, hl, kp⟩
      walk_at "zd"
      have bF : B F = false := wd.off hF
      exact k F ss H8 kp.wd.bag kp.go (hd_of bF kp.eF) (by omega) kp.ok
    rintro i σ H8 hi ⟨ss, x3, x4, x5, x6, x7, rfl, hl, kp⟩
    walk_at "zd"
    refine ⟨⟨_, rfl⟩, ?_⟩
    refine comp_rngD B kp.wd (fun _ y _ => ∃ c, y = V.str (one c) ∧ c ∈ z.cps.toList) (fun _ _ _ _ _ h => h) 4 (by decide) (fun R r => r) ?_ ?_
    · intro i B' H' hi hB s' w' Q' q
      walk_at "zd"
      refine lenS (by exact line5 (by omega)) ?_
      refine take_n w'.bag (by omega) (by omega) fun j H4 hj g4 go4 => ?_
      exact ixS (by exact line5 (by omega)) (by omega) fun c hc => q _ H4 g4 go4 ⟨c, rfl, hc⟩
    intro D acc HA hD hl2 hPa wdA goA hA2
    refine four_of hA2 hl2 (mem_of_get fun i y e => hPa i y e) hz fun x hx => ?_
    have kp := kp.mv wdA.bag goA nF
    refine take_n kp.wd.bag (by decide) (by decide) fun j H9 hj g9 go9 => ?_
    have kp := kp.mv g9 go9 nF
    refine ⟨fun σ H' => ∃ x x3 x6 x7, σ = [some (.ref ω.b), some (.str z), some (.ref F), x3, some (.str x), some (.int (j : Int)), x6, x7] ∧ KpB K B ω H F m ss H' ∧ FourOk m x, ?_, ?_⟩
    · walk_at "zd"
      refine eqI (iteD (fun _ => ?_) fun _ => ?_)
      · walk_at "zd"
        refine lenS (by exact line5 (by omega)) (take_n kp.wd.bag (by omega) (by omega) fun j2 HB hj2 gB goB => ixS (by exact line5 (by omega)) (by omega) fun c hc => ?_)
        obtain ⟨mo1, mo2⟩ := mul_one (c := c) (n := 4) (by decide)
        refine ⟨mo1, ?_⟩
        have mo3 : Txt.mul (one c) 4 = SX.S (List.replicate 4 c) := mo2
        rw [mo3]
        exact ⟨_, _, _, _, rfl, kp.mv gB goB nF, four_rep (hz.sub c hc)⟩
      · exact ⟨x, _, _, _, rfl, kp, hx⟩
    clear hx kp
    rintro σ H9 ⟨x, x3, x6, x7, rfl, kp, hx⟩
    refine ⟨fun σ H' => ∃ x x3 x6 x7, σ = [some (.ref ω.b), some (.str z), some (.ref F), x3, some (.str x), some (.int (j : Int)), x6, x7] ∧ KpB K B ω H F m ss H' ∧ FourOk m x, ?_, ?_⟩
    · walk_at "zd"
      refine eqI (iteD (fun _ => ?_) fun _ => ?_)
      · walk_at "zd"
        refine take_n kp.wd.bag (by decide) (by decide) fun ja HB hja gB goB => ?_
        have kpB := kp.mv gB goB nF
        obtain ⟨u, hu1, hu2⟩ : ∃ u, atI (ss.map V.str) (-1) = some (.str u) ∧ FourOk m u := by
          have hne := kpB.ne
          have e1 : (ss.map V.str).length = (ss.length - 1) + 1 := by
            rw [List.length_map]
            have := List.length_pos_iff.mpr hne
            omega
          have lt : ss.length - 1 < ss.length := by have := List.length_pos_iff.mpr hne; omega
          refine ⟨ss[ss.length - 1], ?_, kpB.ok _ (List.getElem_mem lt)⟩
          unfold atI
          rw [e1, ixN_last]
          show (ss.map V.str)[ss.length - 1]? = _
          rw [List.getElem?_map, List.getElem?_eq_getElem lt]
          rfl
        have ul := hu2.len
        refine ixL (i := -1) (sq_of kpB.eF) hu1 ⟨_, rfl, line5 (by omega), lenS (by exact line5 (by omega)) (take_n kpB.wd.bag (by omega) (by omega) fun jb HC hjb gC goC => ixS (by exact line5 (by omega)) (by omega) fun c hc => ?_)⟩
        have kpC := kpB.mv gC goC nF
        have q1 : (Txt.slice u none (some (ja : Int))).length ≤ 8 := by rw [len_to u (by omega)]; omega
        refine catS (K := K) (by show (Txt.slice u none (some (ja : Int))).length + 1 ≤ 100000; omega) ?_
        refine ixL (i := -1) (sq_of kpC.eF) hu1 ⟨_, rfl, line5 (by omega), ?_⟩
        have q2 : (Txt.slice u (some ((ja : Int) + 1)) none).length ≤ 8 := by rw [len_from u (by omega)]; omega
        refine catS (K := K) (by rw [lenCat]; show (Txt.slice u none (some (ja : Int))).length + 1 + _ ≤ 100000; omega) ?_
        exact ⟨_, _, _, _, rfl, kpC, four_put hu2 (hz.sub c hc) (by omega)⟩
      · exact ⟨x, _, _, _, rfl, kp, hx⟩
    clear hx kp
    rintro σ H9 ⟨x, x3, x6, x7, rfl, kp, hx⟩
    walk_at "zd"
    refine ⟨.inl ⟨rfl, _, sq_of kp.eF⟩, F, ss.map V.str, .str x, rfl, rfl, kp.eF, small5 (by rw [List.length_map]; omega), ?_⟩
    refine ⟨ss ++ [x], _, _, _, _, _, rfl, by rw [List.length_append]; simp; omega, ⟨wd_mut kp.wd wd.bag hF, go_new kp.go hF, ?_, by simp, fun y my => ?_⟩⟩
    · rw [upd_same, List.map_append]
      rfl
    · rcases List.mem_append.mp my with my | my
      · exact kp.ok y my
      · rw [List.mem_singleton.mp my]
        exact hx

/-! ### the law -/
theorem s6_facts : ∀ m : Fin 28, 2 ≤ m.val → ∀ z ∈ [Txt.slice (sgOf (m.val : Nat)) none (some 6), Txt.slice (sgOf (m.val : Nat)) (some (-6)) none], (∀ c ∈ z.cps.toList, c ∈ (sgOf (m.val : Nat)).cps.toList) ∧ 1 ≤ z.length ∧ z.length ≤ 27 ∧ soD (sgOf (m.val : Nat)) (.str (Txt.slice z none (some 4))) = true ∧ 1 ≤ (Txt.slice z none (some 4)).length ∧ (Txt.slice z none (some 4)).length ≤ 5 := by decide +kernel
theorem dot_facts : ∀ m : Fin 28, 2 ≤ m.val → ∀ c ∈ ("...." : Str).cps.toList, c ∈ (sgOf (m.val : Nat)).cps.toList := by decide +kernel
theorem sg_len : ∀ m : Fin 28, (sgOf (m.val : Nat)).length ≤ 27 := by decide +kernel
def spLaw (K : PySem.W.Frag) : Sp := fun vs H Q _ => ∃ (a : Addr) (ns : List Int), vs = [.ref a] ∧ SqL K H a (ns.map V.int) ∧ ns.length ≤ 63 ∧ ∀ H', Q (.bl true) H'
theorem ok_law (T : Tx K mg) (c_law_bag : Cg P w K mg base CX0 1 "_law_bag" (spBag K)) (c_law_take : Cg P w K mg base CX0 1 "_law_take" (spTake K)) (c_law_signs : Cg P w K mg base CX0 1 "_law_signs" (spLSigns K)) (c_law_block_row : Cg P w K mg base CX0 3 "_law_block_row" (spLBlock K)) (c_law_block : Cg P w K mg base CX0 1 "_law_block" (spLBlk K)) (c_law_blocks : Cg P w K mg base CX0 2 "_law_blocks" (spBlks K))
    (c_Rule : Cmk P w K mg base CX0 8 (He.ga K "Rule") "Rule" (spInit K)) (c_Rule_block : Cm P w K mg base CX0 3 (He.ga K "Rule") "block" (spBlk K))
    (F : FunD K "law" "law" (defArgs s_law) (defBody s_law) (defScope s_law) [] [] f fd) : FnG P w K mg base CX0 10 f fd ["_law_script"] (spLaw K) := by
  refine FnG.of F sc_law (fun vs H Q E h => ?_) (fun cdv A outer s H vs Q E hr gd h => ?_)
  · obtain ⟨a, ns, rfl, _⟩ := h
    rfl
  · obtain ⟨a, ns, rfl, hS, hn, k⟩ := h
    have hu : (A.deeper (envOfC "law" (defScope s_law) s.heap.objs.size f cdv)).units + 64 < cLine := by have := hr.un; omega
    refine ⟨_, PSs.nox (pss_cons
    (ps_set (i := 1) sc_law.nd rfl (Or.inr rfl) (pe_cg c_law_bag hr gd (by decide) (by rfl) pass0 (pa_cons (zv 0) pa_nil)))
    (pss_cons
    (ps_for PassesOwn.never rfl (pi_range1 (by rfl) T.range (pa_cons pe_int pa_nil)) (pg_name (i := 2) sc_law.nd rfl (Or.inl rfl))
      (pss_cons
        (ps_set (i := 3) sc_law.nd rfl (Or.inl rfl) (pe_ix (ix_K K) (pe_lst (pa_cons pe_int (pa_cons (pe_op op_addZ pe_int (pe_cg c_law_take hr gd (by decide) (by rfl) pass0 (pa_cons (zv 1) (pa_cons pe_int pa_nil)))) (pa_cons (pe_op op_addZ pe_int (pe_cg c_law_take hr gd (by decide) (by rfl) pass0 (pa_cons (zv 1) (pa_cons pe_int pa_nil)))) pa_nil)))) (pe_cg c_law_take hr gd (by decide) (by rfl) pass0 (pa_cons (zv 1) (pa_cons pe_int pa_nil))) (fun _ _ => rfl)))
        (pss_cons
        (ps_set (i := 4) sc_law.nd rfl (Or.inr rfl) (pe_cg c_law_signs hr gd (by decide) (by rfl) pass0 (pa_cons (zv 3) pa_nil)))
        (pss_cons
        (ps_set (i := 5) sc_law.nd rfl (Or.inl rfl) (pe_ix (ix_K K) (pe_lst (pa_cons (pe_cg c_law_take hr gd (by decide) (by rfl) pass0 (pa_cons (zv 1) (pa_cons pe_int pa_nil))) (pa_cons (pe_cg c_law_take hr gd (by decide) (by rfl) pass0 (pa_cons (zv 1) (pa_cons pe_int pa_nil))) pa_nil))) (pe_callTy call_intZ (by rfl) T.int (by decide +kernel) (pa_cons (pe_cmpR (op_eqK K hu) (pe_cg c_law_take hr gd (by decide) (by rfl) pass0 (pa_cons (zv 1) (pa_cons pe_int pa_nil))) pe_int (nomark _)) pa_nil)) (fun _ _ => rfl)))
        (pss_cons
        (ps_set (i := 4) sc_law.nd rfl (Or.inr rfl) (pe_ix (ix_K K) (pe_lst (pa_cons (pe_slice (sl_K K) (zv 4) po_none (po_some pe_int)) (pa_cons (pe_slice (sl_K K) (zv 4) (po_some (pe_un un_negZ pe_int)) po_none) pa_nil))) (pe_cg c_law_take hr gd (by decide) (by rfl) pass0 (pa_cons (zv 1) (pa_cons pe_int pa_nil))) (fun _ _ => rfl)))
        (pss_cons
        (ps_setLc (i := 6) (own := [("_law_k", 12)]) rfl sc_law.nd rfl rfl (sw_true rfl rfl rfl (by decide +kernel)) (pi_range1 (by rfl) T.range (pa_cons (zv 5) pa_nil)) (blkOk_by (by kernel_rfl)) (fun _ _ _ _ _ => (pg_name (i := 12) sc_law.nd rfl (Or.inl rfl))) (fun _ _ _ _ _ => pts_nil) (fun _ _ _ _ _ => (pe_cg c_law_block_row hr gd (by decide) (by rfl) pass0 (pa_cons (zv 1) (pa_cons (pe_slice (sl_K K) (zv 4) po_none (po_some pe_int)) pa_nil)))))
        (pss_cons
        (ps_set (i := 7) sc_law.nd rfl (Or.inl rfl) (pe_tup (pa_cons pe_str (pa_cons (zv 3) (pa_cons (pe_tup pa_nil) (pa_cons (zv 6) pa_nil))))))
        (pss_cons
        (ps_set (i := 8) sc_law.nd rfl (Or.inl rfl) (pe_cmk c_Rule hr gd (by decide) (by rfl) pass0 (pa_cons pe_str (pa_cons (zv 3) (pa_cons (pe_tup pa_nil) (pa_cons (pe_callTy (call_listK K) (by rfl) T.list (by decide +kernel) (pa_cons (zv 6) pa_nil)) pa_nil))))))
        (pss_cons
        (ps_set (i := 9) sc_law.nd rfl (Or.inl rfl) (pe_cg c_law_blocks hr gd (by decide) (by rfl) pass0 (pa_cons (zv 1) (pa_cons (zv 4) pa_nil))))
        (pss_one
        (ps_for PassesOwn.never rfl (pi_listK K (pe_op op_addZ (zv 9) (pe_revL2 K (zv 9)))) (pg_name (i := 10) sc_law.nd rfl (Or.inl rfl))
          (pss_cons
            (ps_set (i := 11) sc_law.nd rfl (Or.inl rfl) (pe_cm (zv 8) T.o_Rule.cls c_Rule_block hr gd (by decide) pass0 (pa_cons (zv 10) pa_nil)))
            (pss_cons
            (ps_if (PW.pt (pw_or (pt_not (pz_val (pe_callB (call_isiK K) (by rfl) T.isinstance (by decide +kernel) (pa_cons (zv 11) (pa_cons (pe_bltn (v := .ty "str") (by rfl) T.str (by decide +kernel) rfl) pa_nil))))) (pw_or1 (pz_cmp (op_neK K hu) (zv 11) (pe_cg c_law_block hr gd (by decide) (by rfl) pass0 (pa_cons (zv 7) (pa_cons (zv 10) pa_nil))) (nomark _)))))
              (pss_one
                (ps_ret pe_bl))
              pss_nil)
            (pss_one
            (ps_if (pz_cmp (op_neK K hu) (pe_cm (zv 8) T.o_Rule.cls c_Rule_block hr gd (by decide) pass0 (pa_cons (zv 11) pa_nil)) (pe_cg c_law_block hr gd (by decide) (by rfl) pass0 (pa_cons (zv 7) (pa_cons (zv 11) pa_nil))) (nomark _))
              (pss_one
                (ps_ret pe_bl))
              pss_nil)))))))))))))))
    (pss_one
    (ps_ret pe_bl)))), ?_⟩
    try dsimp only [cxOf, Cx.nox]
    show (tSeq _ _) _ [some (.ref a), none, none, none, none, none, none, none, none, none, none, none, none] _
    walk_at "zd"
    refine ⟨a, ns, rfl, hS, hn, fun ω H1 s1 g1 b1 => ?_⟩
    clear hS hn s1 b1
    refine for_rng ?_
    walk_at "zd"
    refine ⟨3, rfl, by decide, by decide, ?_⟩
    refine for_range (lo := 0) (n := 3) (fun i σ H' => (∃ x2 x3 x4 x5 x6 x7 x8 x9 x10 x11, σ = [some (.ref a), some (.ref ω.b), x2, x3, x4, x5, x6, x7, x8, x9, x10, x11, none]) ∧ Bag K H' ω) ⟨⟨_, _, _, _, _, _, _, _, _, _, rfl⟩, g1⟩ ?_ ?_
    rotate_left
    · rintro σ H' _
      walk_at "zd"
      exact k H'
    rintro i σ H2 hi ⟨⟨x2, x3, x4, x5, x6, x7, x8, x9, x10, x11, rfl⟩, g2⟩
    walk_at "zd"
    have wd := Wd.one g2
    generalize hBd : (fun q => decide (q = ω.b)) = B at wd
    refine take_n g2 (by decide) (by decide) fun i1 H3 hi1 g3 go3 => addI ?_
    refine take_n g3 (by decide) (by decide) fun i2 H4 hi2 g4 go4 => addI ?_
    have ea : (2 : Int) + (i1 : Int) = ((2 + i1 : Nat) : Int) := by omega
    have eb : (2 : Int) + (i2 : Int) = ((2 + i2 : Nat) : Int) := by omega
    rw [ea, eb]
    refine ⟨line5 (show 3 ≤ 100000 by decide), fun p2 hp2 => ?_⟩
    have s4 := same_new (o := .lst [V.int 2, V.int (2 + i1 : Nat), V.int (2 + i2 : Nat)]) hp2
    refine take_n (g4.same s4) (by decide) (by decide) fun j2 H5 hj2 g5 go5 => ?_
    have e5 := go5 _ _ (bag_ne g4 hp2) (show upd H4 p2 (.lst [V.int 2, V.int (2 + i1 : Nat), V.int (2 + i2 : Nat)]) p2 = some (.lst [V.int 2, V.int (2 + i1 : Nat), V.int (2 + i2 : Nat)]) from upd_same)
    obtain ⟨m, em, hm1, hm2⟩ : ∃ m : Nat, [V.int 2, V.int (2 + i1 : Nat), V.int (2 + i2 : Nat)][j2]? = some (V.int (m : Int)) ∧ 2 ≤ m ∧ m ≤ 27 := by
      have h3 : j2 = 0 ∨ j2 = 1 ∨ j2 = 2 := by omega
      rcases h3 with rfl | rfl | rfl
      · exact ⟨2, rfl, by omega, by omega⟩
      · exact ⟨2 + i1, rfl, by omega, by omega⟩
      · exact ⟨2 + i2, rfl, by omega, by omega⟩
    refine ixN (sq_of e5) em ?_
    have go05 := (go3.trans go4).trans ((Go.of (b := ω.b) s4).trans go5)
    clear e5 em s4 hp2 ea eb go3 go4 go5 g3 g4 hi1 hi2 hj2
    walk_at "zd"
    refine ⟨m, rfl, ?_⟩
    walk_at "zd"
    refine take_n g5 (by decide) (by decide) fun i8 H6 hi8 g6 go6 => ?_
    refine take_n g6 (by decide) (by decide) fun i9 H7 hi9 g7 go7 => ?_
    refine ⟨line5 (show 2 ≤ 100000 by decide), fun p4 hp4 => ?_⟩
    have s7 := same_new (o := .lst [V.int i8, V.int i9]) hp4
    refine take_n (g7.same s7) (by decide) (by decide) fun j5 H8 hj5 g8 go8 => ?_
    have e8 := go8 _ _ (bag_ne g7 hp4) (show upd H7 p4 (.lst [V.int i8, V.int i9]) p4 = some (.lst [V.int i8, V.int i9]) from upd_same)
    have go08 := ((go05.trans go6).trans go7).trans ((Go.of (b := ω.b) s7).trans go8)
    refine eqI ?_
    generalize decide ((j5 : Int) = 0) = b
    show rIxZ K (V.ref p4) (V.int (if b = true then 1 else 0)) H8 _
    obtain ⟨sz, esz, hsz⟩ : ∃ sz : Nat, atI [V.int i8, V.int i9] (if b = true then 1 else 0) = some (V.int (sz : Int)) ∧ sz ≤ 80 := by
      cases b
      · exact ⟨i8, rfl, by omega⟩
      · exact ⟨i9, rfl, by omega⟩
    refine ixL (sq_of e8) esz ?_
    have lz : (sgOf (m : Nat)).length ≤ sizeLine := line5 (Nat.le_trans (sg_len ⟨m, by omega⟩) (by decide))
    walk_at "zd"
    refine ⟨6, rfl, lz, -6, rfl, lz, line5 (show 2 ≤ 100000 by decide), fun p5 hp5 => ?_⟩
    have zs : ∀ v ∈ [V.str (Txt.slice (sgOf (m : Nat)) none (some 6)), V.str (Txt.slice (sgOf (m : Nat)) (some (-6)) none)], ∃ z, v = V.str z ∧ SgR m z ∧ SgH m (Txt.slice z none (some 4)) := by
      intro v mv
      have key := s6_facts ⟨m, by omega⟩ hm1
      simp only [List.mem_cons, List.not_mem_nil, or_false] at mv key
      rcases mv with rfl | rfl
      · obtain ⟨q1, q2, q3, q4, q5, q6⟩ := key _ (.inl rfl)
        exact ⟨_, rfl, ⟨q1, q2, q3⟩, ⟨q4, q5, q6⟩⟩
      · obtain ⟨q1, q2, q3, q4, q5, q6⟩ := key _ (.inr rfl)
        exact ⟨_, rfl, ⟨q1, q2, q3⟩, ⟨q4, q5, q6⟩⟩
    refine take_at (g8.same (same_new hp5)) upd_same (bag_ne g8 hp5) rfl (by decide) (by decide) fun v mv H9 g9 go9 => ?_
    obtain ⟨z, rfl, hz, hz4⟩ := zs v mv
    have go09 := go08.trans ((Go.of (b := ω.b) (same_new hp5)).trans go9)
    have wd9 := wd.go g9 go09
    have z2 := hz.l2
    clear zs mv go9 hp5 lz g8 go08 e8 esz go6 go7 go8 s7 hp4 g7 g6 hi8 hi9 hj5
    refine comp_rngD B wd9 (fun _ y G => ∃ d, Th K G y d ∧ (rowD "blocks" [] (sgOf m) d = true ∧ Sm 193 3 d)) (fun _ _ _ _ s h => by obtain ⟨d, h1, h2⟩ := h; exact ⟨d, h1.mono s, h2⟩) sz (by omega) (fun R r => r) ?_ ?_
    · intro i B' H' hi hB s' w' Q' q
      walk_at "zd"
      exact ⟨4, rfl, line5 (by omega), ω, m, _, B', rfl, w', hz4, fun v d H6 c1 c2 g6 go6 t6 => q v H6 g6 go6 ⟨d, t6, by unfold rowD; rw [if_pos rfl]; exact c1, c2⟩⟩
    intro D acc HD hD hl hP wdD goD hDD
    obtain ⟨ds, hA, hds⟩ := tha_ex (mem_of_get fun i y e => hP i y e)
    have dl : ds.length = sz := by rw [← hA.len]; exact hl
    have bD : B D = false := wd9.off hD
    walk_at "zd"
    refine ⟨line5 (show 0 ≤ 100000 by decide), fun p0 hp0 => ⟨line5 (show 4 ≤ 100000 by decide), fun t ht => ?_⟩⟩
    have sA := same_new (o := .tup []) hp0
    have sB := same_new (o := .tup [V.str "blocks", V.int (m : Int), V.ref p0, V.ref D]) ht
    have hPt : PtB K (hd B (upd (upd HD p0 (.tup [])) t (.tup [V.str "blocks", V.int (m : Int), V.ref p0, V.ref D]))) t ds := ⟨_, _, _, D, acc, hd_of ((wdD.same sA).off ht) upd_same, hd_of bD (sB _ _ (sA _ _ hDD)), ThA.mono ((hd_more B D HD).trans ((Same.hd (H := HD) sA).trans (Same.hd sB))) _ _ hA⟩
    have wdT := (wdD.same sA).same sB
    have goT := (goD.trans (Go.of sA)).trans (Go.of (b := ω.b) sB)
    have hDT := sB _ _ (sA _ _ hDD)
    have hAT : ThA K (hd B (upd (upd HD p0 (.tup [])) t (.tup [V.str "blocks", V.int (m : Int), V.ref p0, V.ref D]))) acc ds := ThA.mono ((hd_more B D HD).trans ((Same.hd (H := HD) sA).trans (Same.hd sB))) _ _ hA
    revert hPt wdT goT hDT hAT
    generalize upd (upd HD p0 (.tup [])) t (.tup [V.str "blocks", V.int (m : Int), V.ref p0, V.ref D]) = HT
    intro hPt wdT goT hDT hAT
    clear sA sB hp0 ht hA hDD goD wdD hP hD
    dsimp only [tMake]
    walk_at "zd"
    have hp : RlP "blocks" (m : Int) [] ds := ⟨by decide, by decide, by omega, by omega, by decide +kernel, by unfold Short; decide +kernel, fun d md => ⟨Nat.le_trans (hds d md).2.nice.wt (by decide), (hds d md).1⟩, by omega⟩
    have hf4 : FourOk (m : Int) "...." := ⟨rfl, dot_facts ⟨m, by omega⟩ hm1⟩
    clear hds hsz dl hl
    refine ⟨line5 (show 0 ≤ 100000 by decide), fun p6 hp6 => ?_⟩
    have s6 := same_new (o := .tup []) hp6
    refine ⟨acc, .inl (sq_of (s6 _ _ hDT)), fun l hl => ?_⟩
    have sl := same_new (o := .lst acc) hl
    have hN : SqT K (hd B (upd (upd HT p6 (.tup [])) l (.lst acc))) p6 (([] : List Str).map V.str) := st_of (hd_of ((wdT.same s6).off hl |> fun _ => wdT.off hp6) (sl _ _ upd_same))
    have hLR : SqL K (upd (upd HT p6 (.tup [])) l (.lst acc)) l acc := sq_of upd_same
    have sT := s6.trans sl
    revert hN hLR sT
    generalize upd (upd HT p6 (.tup [])) l (.lst acc) = HU
    intro hN hLR sT
    clear hl hp6 s6 sl
    have wdU := wdT.same sT
    have goU := goT.trans (Go.of (b := ω.b) sT)
    have hPU := hPt.same (Same.hd (H := HT) sT)
    have hAU := ThA.mono (Same.hd (B := B) (H := HT) sT) _ _ hAT
    clear hAT hPt goT wdT sT
    refine fun x dx hx hdx _ => mkRuleX wdU.hid hp hN hLR hAU hx hdx fun HV sV rV => ?_
    have wdV := wdU.same sV
    have goV := goU.trans (Go.of (b := ω.b) sV)
    have hPV := hPU.same (Same.hd (H := HU) sV)
    clear hN hLR hAU hx hdx hPU goU wdU sV
    refine ⟨ω, m, z, B, rfl, wdV, hz, hf4, fun F ss HW gW goW eF lF okF => ?_⟩
    have rW := (rV.same (goW.hd wdV.hb)).down
    have hPW := (hPV.same (goW.hd wdV.hb)).same (hd_le B HW)
    have eF := (hd_some eF).2
    clear rV hPV hz hf4
    refine for_lst ?_
    walk_at "zd"
    refine ⟨F, ss.map V.str, rfl, sq_of eF, fun q hq => ?_⟩
    refine catL (same_new hq _ _ eF) upd_same (by rw [List.length_reverse, List.length_map]; omega) fun L hL => ?_
    have s12 := (same_new (o := .lst (ss.map V.str).reverse) hq).trans (same_new (o := .lst (ss.map V.str ++ (ss.map V.str).reverse)) hL)
    have e12 : upd (upd HW q (.lst (ss.map V.str).reverse)) L (.lst (ss.map V.str ++ (ss.map V.str).reverse)) L = some (.lst (ss.map V.str ++ (ss.map V.str).reverse)) := upd_same
    have g12 := gW.same s12
    have r12 := rW.same s12
    have p12 := hPW.same s12
    revert e12 g12 r12 p12
    generalize upd (upd HW q (.lst (ss.map V.str).reverse)) L (.lst (ss.map V.str ++ (ss.map V.str).reverse)) = H12
    intro e12 g12 r12 p12
    have hrow := fun d md => (hp.row d md).2
    refine ⟨L, rfl, ⟨_, sq_of e12⟩, for_list (K := K) (a := L) (xs := ss.map V.str ++ (ss.map V.str).reverse) (fun _ σ H' => Same H12 H' ∧ ∃ y10 y11, σ = [some (.ref a), some (.ref ω.b), some (.int (0 + (i : Int))), some (.int (m : Int)), some (.str z), some (.int (sz : Int)), some (.ref D), some (.ref t), some (.ref x), some (.ref F), y10, y11, none]) ⟨Same.refl _, _, _, rfl⟩ (fun _ _ _ _ h => h.1.seq (sq_of e12)) ?_ ?_⟩
    rotate_left
    · rintro σ H13 ⟨s13, y10, y11, rfl⟩
      exact ⟨⟨_, _, _, _, _, _, _, _, _, _, rfl⟩, g12.same s13⟩
    rintro j y σ H13 hy ⟨s13, y10, y11, rfl⟩
    obtain ⟨u, rfl, hu⟩ : ∃ u, y = V.str u ∧ FourOk (m : Int) u := by
      have my : y ∈ ss.map V.str := by
        rcases List.mem_append.mp (List.mem_of_getElem? hy) with h | h
        · exact h
        · exact List.mem_reverse.mp h
      obtain ⟨u, mu, rfl⟩ := List.mem_map.mp my
      exact ⟨u, rfl, okF u mu⟩
    have hu2 := blk_ok hrow hu
    walk_at "zd"
    dsimp only [tMeth]
    walk_at "zd"
    have r' := r12.same s13
    obtain ⟨_, _, _, hat, _⟩ := r'.ex
    obtain ⟨dx2, fs, e, _, _, _, _, lx⟩ := hat.ex
    refine ⟨x, dx2, fs, rfl, e, lx _ (by decide), ?_⟩
    refine ⟨x, m, [], ds, u, rfl, r', hp, hu, fun H14 s14 => ?_⟩
    refine isi_str (.str _) ?_
    show if (!true) = true then _ else _
    refine iteF ?_
    refine ⟨t, m, [], ds, u, rfl, (p12.same s13).same s14, hp, hu, fun H15 s15 => ?_⟩
    refine eqS ?_
    rw [decide_eq_true rfl]
    show if (!true) = true then _ else _
    refine iteF ?_
    have r2 := (r'.same s14).same s15
    obtain ⟨_, _, _, hat2, _⟩ := r2.ex
    obtain ⟨dx3, fs3, e3, _, _, _, _, lx3⟩ := hat2.ex
    refine ⟨x, dx3, fs3, rfl, e3, lx3 _ (by decide), ?_⟩
    refine ⟨x, m, [], ds, _, rfl, r2, hp, hu2, fun H16 s16 => ?_⟩
    refine ⟨t, m, [], ds, _, rfl, (((p12.same s13).same s14).same s15).same s16, hp, hu2, fun H17 s17 => ?_⟩
    refine eqS ?_
    rw [decide_eq_true rfl]
    show if (!true) = true then _ else _
    refine iteF ?_
    exact ⟨(((s13.trans s14).trans s15).trans s16).trans s17, _, _, rfl⟩

end
theorem relI {mg : Str → Option Value} {x : Str} {i : Int} (h : ∃ t, mg x = some (.int i t)) : ∃ u, mg x = some u ∧ RelV (.int i) u := by
  obtain ⟨t, e⟩ := h
  exact ⟨_, e, t, rfl⟩
theorem relS {mg : Str → Option Value} {x z : Str} (h : ∃ t, mg x = some (.str z t)) : ∃ u, mg x = some u ∧ RelV (.str z) u := by
  obtain ⟨t, e⟩ := h
  exact ⟨_, e, t, rfl⟩
abbrev d_wall : He.DefD := ⟨("_wall", none), "_wall", "_wall", defArgs s_wall, defBody s_wall, defScope s_wall, [], []⟩
abbrev d_is_whole : He.DefD := ⟨("is_whole", none), "is_whole", "is_whole", defArgs s_is_whole, defBody s_is_whole, defScope s_is_whole, [], []⟩
abbrev d_is_from_to : He.DefD := ⟨("is_from_to", none), "is_from_to", "is_from_to", defArgs s_is_from_to, defBody s_is_from_to, defScope s_is_from_to, [], []⟩
abbrev d_is_made_of : He.DefD := ⟨("is_made_of", none), "is_made_of", "is_made_of", defArgs s_is_made_of, defBody s_is_made_of, defScope s_is_made_of, [], []⟩
abbrev d_is_text_of : He.DefD := ⟨("is_text_of", none), "is_text_of", "is_text_of", defArgs s_is_text_of, defBody s_is_text_of, defScope s_is_text_of, [], []⟩
abbrev d_is_signs : He.DefD := ⟨("is_signs", none), "is_signs", "is_signs", defArgs s_is_signs, defBody s_is_signs, defScope s_is_signs, [], []⟩
abbrev d_is_place : He.DefD := ⟨("is_place", none), "is_place", "is_place", defArgs s_is_place, defBody s_is_place, defScope s_is_place, [], []⟩
abbrev d_refuse_wrong : He.DefD := ⟨("refuse_wrong", none), "refuse_wrong", "refuse_wrong", defArgs s_refuse_wrong, defBody s_refuse_wrong, defScope s_refuse_wrong, [], []⟩
abbrev d_is_sort : He.DefD := ⟨("_is_sort", none), "_is_sort", "_is_sort", defArgs s_is_sort, defBody s_is_sort, defScope s_is_sort, [], []⟩
abbrev d_places_of : He.DefD := ⟨("_places_of", none), "_places_of", "_places_of", defArgs s_places_of, defBody s_places_of, defScope s_places_of, [], []⟩
abbrev d_is_near : He.DefD := ⟨("_is_near", none), "_is_near", "_is_near", defArgs s_is_near, defBody s_is_near, defScope s_is_near, [], []⟩
abbrev d_is_signs_of : He.DefD := ⟨("_is_signs_of", none), "_is_signs_of", "_is_signs_of", defArgs s_is_signs_of, defBody s_is_signs_of, defScope s_is_signs_of, [], []⟩
abbrev d_is_at : He.DefD := ⟨("_is_at", none), "_is_at", "_is_at", defArgs s_is_at, defBody s_is_at, defScope s_is_at, [], []⟩
abbrev d_is_count : He.DefD := ⟨("_is_count", none), "_is_count", "_is_count", defArgs s_is_count, defBody s_is_count, defScope s_is_count, [], []⟩
abbrev d_is_test : He.DefD := ⟨("_is_test", none), "_is_test", "_is_test", defArgs s_is_test, defBody s_is_test, defScope s_is_test, [], []⟩
abbrev d_is_cell_row : He.DefD := ⟨("_is_cell_row", none), "_is_cell_row", "_is_cell_row", defArgs s_is_cell_row, defBody s_is_cell_row, defScope s_is_cell_row, [], []⟩
abbrev d_is_block_row : He.DefD := ⟨("_is_block_row", none), "_is_block_row", "_is_block_row", defArgs s_is_block_row, defBody s_is_block_row, defScope s_is_block_row, [], []⟩
abbrev d_Rule_init : He.DefD := ⟨("Rule", some "__init__"), "__init__", "Rule.__init__", defArgs s_Rule_init, defBody s_Rule_init, defScope s_Rule_init, [], []⟩
abbrev d_Rule_is_row : He.DefD := ⟨("Rule", some "_is_row"), "_is_row", "Rule._is_row", defArgs s_Rule_is_row, defBody s_Rule_is_row, defScope s_Rule_is_row, [], []⟩
abbrev d_Rule_signs : He.DefD := ⟨("Rule", some "signs"), "signs", "Rule.signs", defArgs s_Rule_signs, defBody s_Rule_signs, defScope s_Rule_signs, [], []⟩
abbrev d_Rule_block : He.DefD := ⟨("Rule", some "block"), "block", "Rule.block", defArgs s_Rule_block, defBody s_Rule_block, defScope s_Rule_block, [], []⟩
abbrev d_law_bag : He.DefD := ⟨("_law_bag", none), "_law_bag", "_law_bag", defArgs s_law_bag, defBody s_law_bag, defScope s_law_bag, [], []⟩
abbrev d_law_take : He.DefD := ⟨("_law_take", none), "_law_take", "_law_take", defArgs s_law_take, defBody s_law_take, defScope s_law_take, [], []⟩
abbrev d_law_signs : He.DefD := ⟨("_law_signs", none), "_law_signs", "_law_signs", defArgs s_law_signs, defBody s_law_signs, defScope s_law_signs, [], []⟩
abbrev d_law_some : He.DefD := ⟨("_law_some", none), "_law_some", "_law_some", defArgs s_law_some, defBody s_law_some, defScope s_law_some, [], []⟩
abbrev d_law_block_row : He.DefD := ⟨("_law_block_row", none), "_law_block_row", "_law_block_row", defArgs s_law_block_row, defBody s_law_block_row, defScope s_law_block_row, [], []⟩
abbrev d_law_block : He.DefD := ⟨("_law_block", none), "_law_block", "_law_block", defArgs s_law_block, defBody s_law_block, defScope s_law_block, [], []⟩
abbrev d_law_blocks : He.DefD := ⟨("_law_blocks", none), "_law_blocks", "_law_blocks", defArgs s_law_blocks, defBody s_law_blocks, defScope s_law_blocks, [], []⟩
abbrev d_law : He.DefD := ⟨("law", none), "law", "law", defArgs s_law, defBody s_law, defScope s_law, [], []⟩
def fn : List He.DefD := ([d_wall, d_is_whole, d_is_from_to, d_is_made_of, d_is_text_of, d_is_signs, d_is_place, d_refuse_wrong, d_is_sort, d_places_of, d_is_near, d_is_signs_of, d_is_at, d_is_count, d_is_test, d_is_cell_row, d_is_block_row, d_Rule_init, d_Rule_is_row, d_Rule_signs, d_Rule_block, d_law_bag, d_law_take, d_law_signs, d_law_some, d_law_block_row, d_law_block, d_law_blocks, d_law] : List He.DefD)
def fa : List Fz := ([(fun K => He.Fa.ok K (.glo "_wall")), (fun K => He.Fa.ok K (.glo "is_whole")), (fun K => He.Fa.ok K (.glo "is_from_to")), (fun K => He.Fa.ok K (.glo "is_made_of")), (fun K => He.Fa.ok K (.glo "is_text_of")), (fun K => He.Fa.ok K (.glo "is_signs")), (fun K => He.Fa.ok K (.glo "is_place")), (fun K => He.Fa.ok K (.glo "refuse_wrong")), (fun K => He.Fa.ok K (.glo "_is_sort")), (fun K => He.Fa.ok K (.glo "_places_of")), (fun K => He.Fa.ok K (.glo "_is_near")), (fun K => He.Fa.ok K (.glo "_is_signs_of")), (fun K => He.Fa.ok K (.glo "_is_at")), (fun K => He.Fa.ok K (.glo "_is_count")), (fun K => He.Fa.ok K (.glo "_is_test")), (fun K => He.Fa.ok K (.glo "_is_cell_row")), (fun K => He.Fa.ok K (.glo "_is_block_row")), (fun K => He.Fa.ok K (.glo "_law_bag")), (fun K => He.Fa.ok K (.glo "_law_take")), (fun K => He.Fa.ok K (.glo "_law_signs")), (fun K => He.Fa.ok K (.glo "_law_some")), (fun K => He.Fa.ok K (.glo "_law_block_row")), (fun K => He.Fa.ok K (.glo "_law_block")), (fun K => He.Fa.ok K (.glo "_law_blocks")), (fun K => He.Fa.ok K (.glo "law")), (fun K => He.Fa.ok K (.free "ValueError")), (fun K => He.Fa.ok K (.free "abs")), (fun K => He.Fa.ok K (.free "all")), (fun K => He.Fa.ok K (.free "bool")), (fun K => He.Fa.ok K (.free "enumerate"))] : List Fz) ++ ([(fun K => He.Fa.ok K (.free "int")), (fun K => He.Fa.ok K (.free "isinstance")), (fun K => He.Fa.ok K (.free "len")), (fun K => He.Fa.ok K (.free "list")), (fun K => He.Fa.ok K (.free "range")), (fun K => He.Fa.ok K (.free "set")), (fun K => He.Fa.ok K (.free "sorted")), (fun K => He.Fa.ok K (.free "str")), (fun K => He.Fa.ok K (.free "tuple")), (fun K => He.Fa.ok K (.free "zip")), (fun K => He.Fa.ok K (.str "SIGNS" ".abcdefghijklmnopqrstuvwxyz")), (fun K => He.Fa.ok K (.int "MOST_ROWS" 80)), (fun K => He.Fa.ok K (.int "MOST_TESTS" 8)), (fun K => He.Fa.ok K (.int "MOST_AROUND" 8)), excsB ["CellError", "Wrong", "BadRow", "Unfit"] ["CellError", "Unfit"], (fun K => iniB K "Wrong" ["at"]), (fun K => iniB K "BadRow" ["at"]), (fun K => He.Fa.ok K (.glo "Rule")), (fun K => He.Fa.ok K (.cls "Rule")), (fun K => He.Fa.ok K (.mkr "Rule")), (fun K => He.Fa.ok K (.noat "Rule" "_sort")), (fun K => He.Fa.ok K (.noat "Rule" "_many")), (fun K => He.Fa.ok K (.noat "Rule" "_near")), (fun K => He.Fa.ok K (.noat "Rule" "_rows")), (fun K => He.Fa.ok K (.meth "Rule" "_is_row")), (fun K => He.Fa.ok K (.meth "Rule" "signs")), (fun K => He.Fa.ok K (.meth "Rule" "block")), (fun K => ownEB K (He.ga K "Rule")), (fun K => He.Fa.ok K (.glo "PLACES")), (fun K => He.tupB K "PLACES" [.str "n", .str "ne", .str "e", .str "se", .str "s", .str "sw", .str "w", .str "nw"])] : List Fz) ++ ([(fun K => He.Fa.ok K (.glo "SORTS")), (fun K => He.tupB K "SORTS" [.str "around", .str "halves", .str "blocks"]), (fun K => He.Fa.ok K (.glo "SIDES")), (fun K => He.tupB K "SIDES" [.str "n", .str "e", .str "s", .str "w"])] : List Fz)
abbrev R : PySem.W.OpenRow := PySem.W.OpenLaw.row PySem.Challenge.rw_cellscript_k23_blocks_by_rows
abbrev hk : PySem.W.Hook := hookZ 4 fa fn
def ob (s : PySem.W.SharedT) : He.AlD := obsZG 4 fa fn (HandSHeadRun.getT s)
theorem ob_eq (s : PySem.W.SharedT) : ob s = hk.obs s.abs := obsZG_eq (HandSHeadRun.getT_eq s)
theorem run (w : World) : HandSHeadRun.RunEq R (PySem.W.view R.prog [40]) hk ob 20000 ((["_wall", "CellError", "Wrong", "BadRow", "Unfit", "SIGNS", "PLACES", "is_whole", "is_from_to", "is_made_of", "is_text_of", "is_signs", "is_place", "refuse_wrong", "SORTS", "SIDES", "MOST_ROWS", "MOST_TESTS", "MOST_AROUND", "_is_sort", "_places_of", "_is_near", "_is_signs_of", "_is_at", "_is_count", "_is_test", "_is_cell_row", "_is_block_row", "Rule", "_law_bag"] : List Str) ++ (["_law_take", "_law_signs", "_law_some", "_law_block_row", "_law_block", "_law_blocks"] : List Str)) w := by
  intro os
  kernel_rfl
theorem facts {P : Program} {w : World} {K : PySem.W.Frag} {h : Heap} {mg : Str → Option Value} {f : Addr} (X : K.In h) (G : h.Ns mainGlobals mg) (hfa : mg ("law" : Str) = some (.ref f)) (c : SaysZ fa fn K) :
    ∃ fd : FuncData, (∀ (s : Shared) (v : Value), BindsTo s fd ⟨[v], []⟩ [("_law_script", v)]) ∧ ∀ base : Heap, K.In base → base.Ns mainGlobals mg → FnG P w K mg base CX0 10 f fd ["_law_script"] (spLaw K) := by
  have T : Tx K mg := ⟨He.free_ok X G (SaysZ.fact c 25 (f := (fun K => He.Fa.ok K (.free "ValueError"))) rfl),
    He.free_ok X G (SaysZ.fact c 26 (f := (fun K => He.Fa.ok K (.free "abs"))) rfl),
    He.free_ok X G (SaysZ.fact c 27 (f := (fun K => He.Fa.ok K (.free "all"))) rfl),
    He.free_ok X G (SaysZ.fact c 28 (f := (fun K => He.Fa.ok K (.free "bool"))) rfl),
    He.free_ok X G (SaysZ.fact c 29 (f := (fun K => He.Fa.ok K (.free "enumerate"))) rfl),
    He.free_ok X G (SaysZ.fact c 30 (f := (fun K => He.Fa.ok K (.free "int"))) rfl),
    He.free_ok X G (SaysZ.fact c 31 (f := (fun K => He.Fa.ok K (.free "isinstance"))) rfl),
    He.free_ok X G (SaysZ.fact c 32 (f := (fun K => He.Fa.ok K (.free "len"))) rfl),
    He.free_ok X G (SaysZ.fact c 33 (f := (fun K => He.Fa.ok K (.free "list"))) rfl),
    He.free_ok X G (SaysZ.fact c 34 (f := (fun K => He.Fa.ok K (.free "range"))) rfl),
    He.free_ok X G (SaysZ.fact c 35 (f := (fun K => He.Fa.ok K (.free "set"))) rfl),
    He.free_ok X G (SaysZ.fact c 36 (f := (fun K => He.Fa.ok K (.free "sorted"))) rfl),
    He.free_ok X G (SaysZ.fact c 37 (f := (fun K => He.Fa.ok K (.free "str"))) rfl),
    He.free_ok X G (SaysZ.fact c 38 (f := (fun K => He.Fa.ok K (.free "tuple"))) rfl),
    He.free_ok X G (SaysZ.fact c 39 (f := (fun K => He.Fa.ok K (.free "zip"))) rfl),
    relS (He.str_ok X G (SaysZ.fact c 40 (f := (fun K => He.Fa.ok K (.str "SIGNS" ".abcdefghijklmnopqrstuvwxyz"))) rfl)),
    relI (He.int_ok X G (SaysZ.fact c 41 (f := (fun K => He.Fa.ok K (.int "MOST_ROWS" 80))) rfl)),
    relI (He.int_ok X G (SaysZ.fact c 42 (f := (fun K => He.Fa.ok K (.int "MOST_TESTS" 8))) rfl)),
    relI (He.int_ok X G (SaysZ.fact c 43 (f := (fun K => He.Fa.ok K (.int "MOST_AROUND" 8))) rfl)),
    excs_ok X G (SaysZ.fact c 44 (f := excsB ["CellError", "Wrong", "BadRow", "Unfit"] ["CellError", "Unfit"]) rfl),
    iniB_ok (SaysZ.fact c 45 (f := (fun K => iniB K "Wrong" ["at"])) rfl),
    iniB_ok (SaysZ.fact c 46 (f := (fun K => iniB K "BadRow" ["at"])) rfl),
    ⟨He.glo_ok X G (SaysZ.fact c 47 (f := (fun K => He.Fa.ok K (.glo "Rule"))) rfl), He.cls_ok (SaysZ.fact c 48 (f := (fun K => He.Fa.ok K (.cls "Rule"))) rfl), fun f m => by
      simp only [List.mem_cons, List.not_mem_nil, or_false] at m
      rcases m with rfl | rfl | rfl | rfl
      · exact He.noat_ok (SaysZ.fact c 50 (f := (fun K => He.Fa.ok K (.noat "Rule" "_sort"))) rfl)
      · exact He.noat_ok (SaysZ.fact c 51 (f := (fun K => He.Fa.ok K (.noat "Rule" "_many"))) rfl)
      · exact He.noat_ok (SaysZ.fact c 52 (f := (fun K => He.Fa.ok K (.noat "Rule" "_near"))) rfl)
      · exact He.noat_ok (SaysZ.fact c 53 (f := (fun K => He.Fa.ok K (.noat "Rule" "_rows"))) rfl), He.mkr_ok (SaysZ.fact c 49 (f := (fun K => He.Fa.ok K (.mkr "Rule"))) rfl)⟩,
    ownEB_ok (SaysZ.fact c 57 (f := (fun K => ownEB K (He.ga K "Rule"))) rfl),
    ⟨He.glo_ok X G (SaysZ.fact c 58 (f := (fun K => He.Fa.ok K (.glo "PLACES"))) rfl), tup_fact (SaysZ.fact c 59 (f := (fun K => He.tupB K "PLACES" [.str "n", .str "ne", .str "e", .str "se", .str "s", .str "sw", .str "w", .str "nw"])) rfl)⟩,
    ⟨He.glo_ok X G (SaysZ.fact c 60 (f := (fun K => He.Fa.ok K (.glo "SORTS"))) rfl), tup_fact (SaysZ.fact c 61 (f := (fun K => He.tupB K "SORTS" [.str "around", .str "halves", .str "blocks"])) rfl)⟩,
    ⟨He.glo_ok X G (SaysZ.fact c 62 (f := (fun K => He.Fa.ok K (.glo "SIDES"))) rfl), tup_fact (SaysZ.fact c 63 (f := (fun K => He.tupB K "SIDES" [.str "n", .str "e", .str "s", .str "w"])) rfl)⟩⟩
  obtain ⟨fd_law_take, F_law_take⟩ := c.def_ 22 (d := d_law_take) rfl
  obtain ⟨fd_is_made_of, F_is_made_of⟩ := c.def_ 3 (d := d_is_made_of) rfl
  obtain ⟨fd_is_whole, F_is_whole⟩ := c.def_ 1 (d := d_is_whole) rfl
  obtain ⟨fd_is_from_to, F_is_from_to⟩ := c.def_ 2 (d := d_is_from_to) rfl
  obtain ⟨fd_is_text_of, F_is_text_of⟩ := c.def_ 4 (d := d_is_text_of) rfl
  obtain ⟨fd_is_signs, F_is_signs⟩ := c.def_ 5 (d := d_is_signs) rfl
  obtain ⟨fd_is_place, F_is_place⟩ := c.def_ 6 (d := d_is_place) rfl
  obtain ⟨fd_refuse_wrong, F_refuse_wrong⟩ := c.def_ 7 (d := d_refuse_wrong) rfl
  obtain ⟨fd_is_sort, F_is_sort⟩ := c.def_ 8 (d := d_is_sort) rfl
  obtain ⟨fd_places_of, F_places_of⟩ := c.def_ 9 (d := d_places_of) rfl
  obtain ⟨fd_is_near, F_is_near⟩ := c.def_ 10 (d := d_is_near) rfl
  obtain ⟨fd_is_signs_of, F_is_signs_of⟩ := c.def_ 11 (d := d_is_signs_of) rfl
  obtain ⟨fd_is_at, F_is_at⟩ := c.def_ 12 (d := d_is_at) rfl
  obtain ⟨fd_is_count, F_is_count⟩ := c.def_ 13 (d := d_is_count) rfl
  obtain ⟨fd_is_test, F_is_test⟩ := c.def_ 14 (d := d_is_test) rfl
  obtain ⟨fd_is_cell_row, F_is_cell_row⟩ := c.def_ 15 (d := d_is_cell_row) rfl
  obtain ⟨fd_is_block_row, F_is_block_row⟩ := c.def_ 16 (d := d_is_block_row) rfl
  obtain ⟨fd_Rule_signs, F_Rule_signs⟩ := c.def_ 19 (d := d_Rule_signs) rfl
  obtain ⟨fd_Rule_is_row, F_Rule_is_row⟩ := c.def_ 18 (d := d_Rule_is_row) rfl
  obtain ⟨fd_Rule_init, F_Rule_init⟩ := c.def_ 17 (d := d_Rule_init) rfl
  obtain ⟨fd_Rule_block, F_Rule_block⟩ := c.def_ 20 (d := d_Rule_block) rfl
  obtain ⟨fd_law_bag, F_law_bag⟩ := c.def_ 21 (d := d_law_bag) rfl
  obtain ⟨fd_law_signs, F_law_signs⟩ := c.def_ 23 (d := d_law_signs) rfl
  obtain ⟨fd_law_some, F_law_some⟩ := c.def_ 24 (d := d_law_some) rfl
  obtain ⟨fd_law_block_row, F_law_block_row⟩ := c.def_ 25 (d := d_law_block_row) rfl
  obtain ⟨fd_law_block, F_law_block⟩ := c.def_ 26 (d := d_law_block) rfl
  obtain ⟨fd_law_blocks, F_law_blocks⟩ := c.def_ 27 (d := d_law_blocks) rfl
  obtain ⟨fd_law, F_law⟩ := c.def_ 28 (d := d_law) rfl
  have e := hfa.symm.trans (He.glo_ok X G (SaysZ.fact c 24 (f := (fun K => He.Fa.ok K (.glo "law"))) rfl))
  cases e
  refine ⟨_, fun s v => (FunD.bindsA (ps := ["_law_script"]) F_law fun _ _ _ _ _ _ us hl => match us, hl with | [_], _ => rfl) s [v] rfl, fun base _ _ => ?_⟩
  have C_law_take : Cg P w K mg base CX0 1 "_law_take" (spTake K) := ⟨_, _, _, ok_take T  F_law_take, He.glo_ok X G (SaysZ.fact c 18 (f := (fun K => He.Fa.ok K (.glo "_law_take"))) rfl), F_law_take.kp, F_law_take.bindsN fun _ _ _ _ _ _ us hl => match us, hl with | [_, _], _ => rfl⟩
  have C_is_made_of : Cg P w K mg base CX0 1 "is_made_of" (spMade K) := ⟨_, _, _, ok_made T  F_is_made_of, He.glo_ok X G (SaysZ.fact c 3 (f := (fun K => He.Fa.ok K (.glo "is_made_of"))) rfl), F_is_made_of.kp, F_is_made_of.bindsN fun _ _ _ _ _ _ us hl => match us, hl with | [_, _], _ => rfl⟩
  have C_is_whole : Cg P w K mg base CX0 1 "is_whole" (spWholeD K) := ⟨_, _, _, ok_whole T  F_is_whole, He.glo_ok X G (SaysZ.fact c 1 (f := (fun K => He.Fa.ok K (.glo "is_whole"))) rfl), F_is_whole.kp, F_is_whole.bindsN fun _ _ _ _ _ _ us hl => match us, hl with | [_], _ => rfl⟩
  have C_is_from_to : Cg P w K mg base CX0 2 "is_from_to" (spFromD K) := ⟨_, _, _, ok_from T C_is_whole F_is_from_to, He.glo_ok X G (SaysZ.fact c 2 (f := (fun K => He.Fa.ok K (.glo "is_from_to"))) rfl), F_is_from_to.kp, F_is_from_to.bindsN fun _ _ _ _ _ _ us hl => match us, hl with | [_, _, _], _ => rfl⟩
  have C_is_text_of : Cg P w K mg base CX0 2 "is_text_of" (spText K) := ⟨_, _, _, ok_text T C_is_made_of F_is_text_of, He.glo_ok X G (SaysZ.fact c 4 (f := (fun K => He.Fa.ok K (.glo "is_text_of"))) rfl), F_is_text_of.kp, F_is_text_of.bindsN fun _ _ _ _ _ _ us hl => match us, hl with | [_, _, _], _ => rfl⟩
  have C_is_signs : Cg P w K mg base CX0 2 "is_signs" (spOn K signsD) := ⟨_, _, _, ok_signs T C_is_made_of F_is_signs, He.glo_ok X G (SaysZ.fact c 5 (f := (fun K => He.Fa.ok K (.glo "is_signs"))) rfl), F_is_signs.kp, F_is_signs.bindsN fun _ _ _ _ _ _ us hl => match us, hl with | [_], _ => rfl⟩
  have C_is_place : Cg P w K mg base CX0 1 "is_place" (spOn K placeD) := ⟨_, _, _, ok_place T  F_is_place, He.glo_ok X G (SaysZ.fact c 6 (f := (fun K => He.Fa.ok K (.glo "is_place"))) rfl), F_is_place.kp, F_is_place.bindsN fun _ _ _ _ _ _ us hl => match us, hl with | [_], _ => rfl⟩
  have C_refuse_wrong : Cr P w K mg base CX0 1 "refuse_wrong" (spRef) := ⟨_, ok_refuse T  F_refuse_wrong, He.glo_ok X G (SaysZ.fact c 7 (f := (fun K => He.Fa.ok K (.glo "refuse_wrong"))) rfl), F_refuse_wrong.kp⟩
  have C_is_sort : Cg P w K mg base CX0 1 "_is_sort" (spOn K sortD) := ⟨_, _, _, ok_sort T  F_is_sort, He.glo_ok X G (SaysZ.fact c 8 (f := (fun K => He.Fa.ok K (.glo "_is_sort"))) rfl), F_is_sort.kp, F_is_sort.bindsN fun _ _ _ _ _ _ us hl => match us, hl with | [_], _ => rfl⟩
  have C_places_of : Cg P w K mg base CX0 1 "_places_of" (spPlaces K) := ⟨_, _, _, ok_places T  F_places_of, He.glo_ok X G (SaysZ.fact c 9 (f := (fun K => He.Fa.ok K (.glo "_places_of"))) rfl), F_places_of.kp, F_places_of.bindsN fun _ _ _ _ _ _ us hl => match us, hl with | [_], _ => rfl⟩
  have C_is_near : Cg P w K mg base CX0 2 "_is_near" (spNear K) := ⟨_, _, _, ok_near T C_is_place C_places_of F_is_near, He.glo_ok X G (SaysZ.fact c 10 (f := (fun K => He.Fa.ok K (.glo "_is_near"))) rfl), F_is_near.kp, F_is_near.bindsN fun _ _ _ _ _ _ us hl => match us, hl with | [_, _], _ => rfl⟩
  have C_is_signs_of : Cg P w K mg base CX0 3 "_is_signs_of" (spSo K) := ⟨_, _, _, ok_so T C_is_signs C_is_made_of F_is_signs_of, He.glo_ok X G (SaysZ.fact c 11 (f := (fun K => He.Fa.ok K (.glo "_is_signs_of"))) rfl), F_is_signs_of.kp, F_is_signs_of.bindsN fun _ _ _ _ _ _ us hl => match us, hl with | [_, _], _ => rfl⟩
  have C_is_at : Cg P w K mg base CX0 4 "_is_at" (spAt K) := ⟨_, _, _, ok_at T C_is_place C_is_signs_of F_is_at, He.glo_ok X G (SaysZ.fact c 12 (f := (fun K => He.Fa.ok K (.glo "_is_at"))) rfl), F_is_at.kp, F_is_at.bindsN fun _ _ _ _ _ _ us hl => match us, hl with | [_, _, _], _ => rfl⟩
  have C_is_count : Cg P w K mg base CX0 4 "_is_count" (spCount K) := ⟨_, _, _, ok_count T C_is_from_to C_is_signs_of F_is_count, He.glo_ok X G (SaysZ.fact c 13 (f := (fun K => He.Fa.ok K (.glo "_is_count"))) rfl), F_is_count.kp, F_is_count.bindsN fun _ _ _ _ _ _ us hl => match us, hl with | [_, _], _ => rfl⟩
  have C_is_test : Cg P w K mg base CX0 5 "_is_test" (spTest K) := ⟨_, _, _, ok_test T C_is_at C_is_count F_is_test, He.glo_ok X G (SaysZ.fact c 14 (f := (fun K => He.Fa.ok K (.glo "_is_test"))) rfl), F_is_test.kp, F_is_test.bindsN fun _ _ _ _ _ _ us hl => match us, hl with | [_, _, _], _ => rfl⟩
  have C_is_cell_row : Cg P w K mg base CX0 6 "_is_cell_row" (spCell K) := ⟨_, _, _, ok_cell T C_is_signs_of C_is_text_of C_is_test F_is_cell_row, He.glo_ok X G (SaysZ.fact c 15 (f := (fun K => He.Fa.ok K (.glo "_is_cell_row"))) rfl), F_is_cell_row.kp, F_is_cell_row.bindsN fun _ _ _ _ _ _ us hl => match us, hl with | [_, _, _], _ => rfl⟩
  have C_is_block_row : Cg P w K mg base CX0 4 "_is_block_row" (spBlock K) := ⟨_, _, _, ok_block T C_is_signs_of C_is_text_of F_is_block_row, He.glo_ok X G (SaysZ.fact c 16 (f := (fun K => He.Fa.ok K (.glo "_is_block_row"))) rfl), F_is_block_row.kp, F_is_block_row.bindsN fun _ _ _ _ _ _ us hl => match us, hl with | [_, _], _ => rfl⟩
  have C_Rule_signs : Cm P w K mg base CX0 1 (He.ga K "Rule") "signs" (spSigns K) := ⟨_, _, _, ok_signsOf T  F_Rule_signs, He.meth_ok (SaysZ.fact c 55 (f := (fun K => He.Fa.ok K (.meth "Rule" "signs"))) rfl), F_Rule_signs.bindsN fun _ _ _ _ _ _ us hl => match us, hl with | [_], _ => rfl⟩
  have C_Rule_is_row : Cm P w K mg base CX0 7 (He.ga K "Rule") "_is_row" (spIsRow K) := ⟨_, _, _, ok_isRow T C_Rule_signs C_is_block_row C_is_cell_row F_Rule_is_row, He.meth_ok (SaysZ.fact c 54 (f := (fun K => He.Fa.ok K (.meth "Rule" "_is_row"))) rfl), F_Rule_is_row.bindsN fun _ _ _ _ _ _ us hl => match us, hl with | [_, _], _ => rfl⟩
  have C_Rule : Cmk P w K mg base CX0 8 (He.ga K "Rule") "Rule" (spInit K) := ⟨_, _, _, ok_init T C_is_sort C_is_from_to C_is_near C_refuse_wrong C_Rule_is_row F_Rule_init, T.o_Rule.made, T.o_Rule.g, F_Rule_init.bindsN fun _ _ _ _ _ _ us hl => match us, hl with | [_, _, _, _, _], _ => rfl⟩
  have C_Rule_block : Cm P w K mg base CX0 3 (He.ga K "Rule") "block" (spBlk K) := ⟨_, _, _, ok_blk T C_Rule_signs C_is_text_of C_refuse_wrong F_Rule_block, He.meth_ok (SaysZ.fact c 56 (f := (fun K => He.Fa.ok K (.meth "Rule" "block"))) rfl), F_Rule_block.bindsN fun _ _ _ _ _ _ us hl => match us, hl with | [_, _], _ => rfl⟩
  have C_law_bag : Cg P w K mg base CX0 1 "_law_bag" (spBag K) := ⟨_, _, _, ok_bag T  F_law_bag, He.glo_ok X G (SaysZ.fact c 17 (f := (fun K => He.Fa.ok K (.glo "_law_bag"))) rfl), F_law_bag.kp, F_law_bag.bindsN fun _ _ _ _ _ _ us hl => match us, hl with | [_], _ => rfl⟩
  have C_law_signs : Cg P w K mg base CX0 1 "_law_signs" (spLSigns K) := ⟨_, _, _, ok_lsigns T  F_law_signs, He.glo_ok X G (SaysZ.fact c 19 (f := (fun K => He.Fa.ok K (.glo "_law_signs"))) rfl), F_law_signs.kp, F_law_signs.bindsN fun _ _ _ _ _ _ us hl => match us, hl with | [_], _ => rfl⟩
  have C_law_some : Cg P w K mg base CX0 2 "_law_some" (spLSome K) := ⟨_, _, _, ok_lsome T C_law_take F_law_some, He.glo_ok X G (SaysZ.fact c 20 (f := (fun K => He.Fa.ok K (.glo "_law_some"))) rfl), F_law_some.kp, F_law_some.bindsN fun _ _ _ _ _ _ us hl => match us, hl with | [_, _], _ => rfl⟩
  have C_law_block_row : Cg P w K mg base CX0 3 "_law_block_row" (spLBlock K) := ⟨_, _, _, ok_lblock T C_law_take C_law_some F_law_block_row, He.glo_ok X G (SaysZ.fact c 21 (f := (fun K => He.Fa.ok K (.glo "_law_block_row"))) rfl), F_law_block_row.kp, F_law_block_row.bindsN fun _ _ _ _ _ _ us hl => match us, hl with | [_, _], _ => rfl⟩
  have C_law_block : Cg P w K mg base CX0 1 "_law_block" (spLBlk K) := ⟨_, _, _, ok_lblk T  F_law_block, He.glo_ok X G (SaysZ.fact c 22 (f := (fun K => He.Fa.ok K (.glo "_law_block"))) rfl), F_law_block.kp, F_law_block.bindsN fun _ _ _ _ _ _ us hl => match us, hl with | [_, _], _ => rfl⟩
  have C_law_blocks : Cg P w K mg base CX0 2 "_law_blocks" (spBlks K) := ⟨_, _, _, ok_blks T C_law_take F_law_blocks, He.glo_ok X G (SaysZ.fact c 23 (f := (fun K => He.Fa.ok K (.glo "_law_blocks"))) rfl), F_law_blocks.kp, F_law_blocks.bindsN fun _ _ _ _ _ _ us hl => match us, hl with | [_, _], _ => rfl⟩
  exact ok_law T C_law_bag C_law_take C_law_signs C_law_block_row C_law_block C_law_blocks C_Rule C_Rule_block F_law
end Lw
open PySem PySem.W PySem.Calls PyProof.Rows
theorem PySem.Challenge.cw_cellscript_k23_blocks_by_rows_holds : PySem.Challenge.rw_cellscript_k23_blocks_by_rows.Holds := by
  w_on; o_law
  refine HandSHeadRun.head_any (r := OpenLaw.row PySem.Challenge.rw_cellscript_k23_blocks_by_rows) (q := view (OpenLaw.row PySem.Challenge.rw_cellscript_k23_blocks_by_rows).prog [40]) (H := Lw.hk) (ob := Lw.ob) (M := 20000) (loose := ((["_wall", "CellError", "Wrong", "BadRow", "Unfit", "SIGNS", "PLACES", "is_whole", "is_from_to", "is_made_of", "is_text_of", "is_signs", "is_place", "refuse_wrong", "SORTS", "SIDES", "MOST_ROWS", "MOST_TESTS", "MOST_AROUND", "_is_sort", "_places_of", "_is_near", "_is_signs_of", "_is_at", "_is_count", "_is_test", "_is_cell_row", "_is_block_row", "Rule", "_law_bag"] : List Str) ++ (["_law_take", "_law_signs", "_law_some", "_law_block_row", "_law_block", "_law_blocks"] : List Str))) (d := HandSHeadRun.topDef (OpenLaw.row PySem.Challenge.rw_cellscript_k23_blocks_by_rows).prog 40) (kwd := []) Lw.ob_eq
    (by kernel_rfl) (fun s => by kernel_rfl) Lw.run (by kernel_rfl) (by kernel_rfl) (by kernel_rfl) (by rfl) (by first | assumption | decide +kernel) (by decide +kernel) ⟨rfl, rfl, rfl, rfl, rfl, by decide +kernel⟩ ?hw ?hc
  case hw => w_witness2
  case hc =>
    refine Z.law_walk (l := PySem.Challenge.rw_cellscript_k23_blocks_by_rows) (n := 63) (k := 10) (x := "_law_script") (CX := L2.CX0) rfl (by decide) (by kernel_rfl) ⟨rfl, by decide, by decide⟩ ?F (fun _ _ _ _ z => z)
    intro w mg fa h Y G hmg0
    obtain ⟨K, KX, c⟩ := Y
    have hmg : mg ("law" : PySem.Str) = some (.ref fa) := by
      have e : (HandSHeadRun.topDef (OpenLaw.row PySem.Challenge.rw_cellscript_k23_blocks_by_rows).prog 40).name = ("law" : PySem.Str) := by kernel_rfl
      rw [← e]
      exact hmg0
    obtain ⟨fd, hb, hF⟩ := Lw.facts (P := (PySem.Challenge.rw_cellscript_k23_blocks_by_rows).prog) (w := w) KX G hmg c
    exact ⟨K, fd, Lw.spLaw K, KX, hb, fun H a ns hl hS => ⟨a, ns, rfl, hS, hl, fun _ => rfl⟩, hF⟩
