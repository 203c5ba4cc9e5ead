import PyProof.Rows.All
import Wide.All
import OpenK.AllK
import Wide.FinOn
import KE.KStateDown
import HandS.Base
import HandS.Call
import HandS.List
import HandS.Comp
import HandS.Ends
import HandS.Dict
import HandS.Iter
import HandS.Text
import HandS.More
import HandS.Words
import HandS.WordsList
import HandS.WordsDict
import HandS.WordsExc
import HandS.Defaults
import HandS.Wide
import HandS.IsInst
import HandS.Exc
import HandS.TryOnly
import HandS.TryMany
import HandS.Flow
import HandS.StrMore
import HandS.Codes
import HandS.Walk
import PyProof.ReprReads
import PyProof.ReprRoads
import HandS.HeadEnd
import PyProof.ListStr
import PyProof.ReprLen
import HandS.Star
import KE.GoesEnum
import PyProof.Rows.ReprShort
import PyProof.Rows.StrCut
import PyProof.Rows.StrClose5
import PyProof.Rows.StrJoinRep
import KE.GoesZip
import KE.KDictZip
import HandS.Style
import PyProof.Rows.StrRev
import HandS.Head0
import HandS.Head1
import HandS.Head2
import HandS.HeadHook1
import HandS.HeadHook2
import PySem.Challenge.RW_cellscript_k12_pictures_known
set_option Elab.async false
set_option linter.all false
set_option maxRecDepth 100000
set_option maxHeartbeats 4000000
set_option maxRecDepth 100000
set_option maxHeartbeats 2000000
namespace Z
open PySem PySem.Spec PyProof.Rows L2
/-! ### operators that look at their values -/
section
variable {X : Cx}
/-- xs[i] of a list, as an augmented store reads it -/
def gIxL (K : PySem.W.Frag) : V → V → Hp → VK → Prop := fun x y H Q => ∃ (p : Addr) (xs : List V) (i : Nat) (v : V), x = .ref p ∧ y = .int (i : Int) ∧ SqL K H p xs ∧ xs[i]? = some v ∧ Q v H
theorem pget_list : PGet X (gIxL X.K) := by
  intro pins s σ H o i ov iv Q I ro ri h
  obtain ⟨p, xs, i, z, rfl, rfl, hq, he, q⟩ := h
  cases ro
  obtain ⟨t, rfl⟩ := ri
  obtain ⟨its, r, pl, hz⟩ := I.list hq
  obtain ⟨w, ew, rw'⟩ := r.get he
  have hl := r.length
  have hn := line63
  have hj : i < its.length := by
    have := (List.getElem?_eq_some_iff.mp ew).1
    exact this
  exact wpAny_getItem_list pl.isList (by omega) (by omega) (by simpa using ew) ⟨z, H, I, rw', q⟩
end

/-! a + b: ints, texts, lists -/
def rAddZ : R2 := fun x y H Q => match x, y with
  | .int i, .int j => Q (.int (i + j)) H
  | .str i, .str j => i.length + j.length ≤ sizeLine ∧ Q (.str (i ++ j)) H
  | .ref l, .ref b => ∃ xs zs, H l = some (.lst xs) ∧ H b = some (.lst zs) ∧ xs.length + zs.length ≤ sizeLine ∧ ∀ p, H p = none → Q (.ref p) (upd H p (.lst (xs ++ zs)))
  | _, _ => False
section
variable {X : Cx}
theorem op_addZ : OpR X (binaryOp .Add) rAddZ := by
  intro pins s σ H x y v u Q I rx ry h
  cases x <;> cases y <;> first
    | exact h.elim
    | exact op_add pins s σ H _ _ v u Q I rx ry ⟨_, _, rfl, rfl, h⟩
    | exact op_add_str pins s σ H _ _ v u Q I rx ry ⟨_, _, rfl, rfl, h.1, h.2⟩
    | (obtain ⟨xs, zs, h1, h2, h3, h4⟩ := h; exact op_cat pins s σ H _ _ v u Q I rx ry ⟨_, _, xs, zs, rfl, rfl, h1, h2, h3, h4⟩)
/-! a * b -/
def rMulZ : R2 := fun x y H Q => match x, y with
  | .int i, .int j => (CMul i j ∨ CMulW i j) ∧ Q (.int (i * j)) H
  | .str a, .int k => MulOk a k ∧ Q (.str (Txt.mul a k)) H
  | .ref l, .int k => ∃ xs, H l = some (.lst xs) ∧ -(2 ^ 63) ≤ k ∧ k < 2 ^ 63 ∧ xs.length * k.toNat ≤ sizeLine ∧ ∀ p, H p = none → Q (.ref p) (upd H p (.lst (List.replicate k.toNat xs).flatten))
  | _, _ => False
theorem op_mulZ : OpR X (binaryOp .Mult) rMulZ := by
  intro pins s σ H x y v u Q I rx ry h
  cases x <;> cases y <;> first
    | exact h.elim
    | (obtain ⟨h1 | h1, h2⟩ := h
       · exact op_mul pins s σ H _ _ v u Q I rx ry ⟨_, _, rfl, rfl, h1, h2⟩
       · exact op_mulW pins s σ H _ _ v u Q I rx ry ⟨_, _, rfl, rfl, h1, h2⟩)
    | (obtain ⟨h1, h2⟩ := h; obtain ⟨t, rfl⟩ := rx; obtain ⟨t', rfl⟩ := ry; exact SB.mul h1 fun t2 tk => ⟨.str _, H, I.tok _, ⟨_, rfl⟩, h2⟩)
    | (obtain ⟨xs, h1, h2, h3, h4, h5⟩ := h; exact op_rep pins s σ H _ _ v u Q I rx ry ⟨_, _, xs, rfl, rfl, h1, h2, h3, h4, h5⟩)
/-! comparisons -/
def rCmpZ (g : Int → Int → Bool) (f : Str → Str → Bool) : R2 := fun x y H Q => match x, y with
  | .int i, .int j => Q (.bl (g i j)) H
  | .str i, .str j => Q (.bl (f i j)) H
  | _, _ => False
theorem cmpZ {o : Value → Value → Sem Value} {g : Int → Int → Bool} {f : Str → Str → Bool} (h1 : OpR X o (rI0 fun i j => .bl (g i j))) (h2 : OpR X o (fun x y H Q => ∃ i j, x = .str i ∧ y = .str j ∧ Q (.bl (f i j)) H)) : OpR X o (rCmpZ g f) := by
  intro pins s σ H x y v u Q I rx ry h
  cases x <;> cases y <;> first
    | exact h.elim
    | exact h1 pins s σ H _ _ v u Q I rx ry ⟨_, _, rfl, rfl, h⟩
    | exact h2 pins s σ H _ _ v u Q I rx ry ⟨_, _, rfl, rfl, h⟩
abbrev ltS (i j : Str) : Bool := decide (i.cps.toList < j.cps.toList)
abbrev rLtZ : R2 := rCmpZ (fun i j => decide (i < j)) ltS
abbrev rLeZ : R2 := rCmpZ (fun i j => decide (i ≤ j)) (fun i j => !ltS j i)
abbrev rGtZ : R2 := rCmpZ (fun i j => decide (j < i)) (fun i j => ltS j i)
abbrev rGeZ : R2 := rCmpZ (fun i j => decide (j ≤ i)) (fun i j => !ltS i j)
theorem op_ltZ : OpR X (compareOp .Lt) rLtZ := cmpZ op_lt op_lt_str
theorem op_leZ : OpR X (compareOp .LtE) rLeZ := cmpZ op_le op_le_str
theorem op_gtZ : OpR X (compareOp .Gt) rGtZ := cmpZ op_gt op_gt_str
theorem op_geZ : OpR X (compareOp .GtE) rGeZ := cmpZ op_ge op_ge_str
/-! == and !=: flat things by their values, else data of any depth -/
def isRef : V → Bool
  | .ref _ => true
  | _ => false
def rEqZ (K : PySem.W.Frag) (f : Bool → Bool) : R2 := fun x y H Q => if (isRef x || isRef y) = true then ∃ d e, Dp K H x d ∧ Dp K H y e ∧ SeqAt.shaped d = true ∧ SeqAt.shaped e = true ∧ Q (.bl (f (PyData.eqv d e))) H else scal x y = true ∧ Q (.bl (f (decide (x = y)))) H
theorem op_eqZ (hu : X.A.units + 64 < cLine) : OpR X (compareOp .Eq) (rEqZ X.K id) := by
  intro pins s σ H x y v u Q I rx ry h
  unfold rEqZ at h
  split at h
  · exact op_eqD hu pins s σ H x y v u Q I rx ry h
  · exact op_eq pins s σ H x y v u Q I rx ry h
theorem op_neZ (hu : X.A.units + 64 < cLine) : OpR X (compareOp .NotEq) (rEqZ X.K not) := by
  intro pins s σ H x y v u Q I rx ry h
  unfold rEqZ at h
  split at h
  · exact op_neD hu pins s σ H x y v u Q I rx ry h
  · exact op_ne pins s σ H x y v u Q I rx ry h
/-! in -/
def rInZ (K : PySem.W.Frag) (f : Bool → Bool) : R2 := fun x y H Q => match y with
  | .str z => ∃ c : Nat, x = .str ⟨#[c]⟩ ∧ Q (.bl (f (decide (c ∈ z.cps.toList)))) H
  | .ref p => ∃ xs, (SqL K H p xs ∨ SqT K H p xs) ∧ flatV x = true ∧ xs.all flatV = true ∧ Q (.bl (f (inV x xs))) H
  | _ => False
theorem op_inZ : OpR X (compareOp .In) (rInZ X.K id) := by
  intro pins s σ H x y v u Q I rx ry h
  cases y <;> first
    | exact h.elim
    | (obtain ⟨c, rfl, h⟩ := h; exact op_in_sign pins s σ H _ _ v u Q I rx ry ⟨_, _, rfl, rfl, h⟩)
    | (obtain ⟨xs, h1, h2, h3, h4⟩ := h; exact op_in_seq pins s σ H _ _ v u Q I rx ry ⟨_, xs, rfl, h1, h2, h3, h4⟩)
theorem op_notInZ : OpR X (compareOp .NotIn) (rInZ X.K not) := by
  intro pins s σ H x y v u Q I rx ry h
  cases y <;> first
    | exact h.elim
    | (obtain ⟨c, rfl, h⟩ := h; exact op_notIn_sign pins s σ H _ _ v u Q I rx ry ⟨_, _, rfl, rfl, h⟩)
    | (obtain ⟨xs, h1, h2, h3, h4⟩ := h; exact op_notIn_seq pins s σ H _ _ v u Q I rx ry ⟨_, xs, rfl, h1, h2, h3, h4⟩)
/-! items and slices -/
def rIxZ (K : PySem.W.Frag) : R2 := fun x y H Q => match x with
  | .str z => ∃ i c, y = .int i ∧ z.length ≤ sizeLine ∧ atI z.cps.toList i = some c ∧ Q (.str ⟨#[c]⟩) H
  | .ref p => ∃ xs i v, y = .int i ∧ (SqL K H p xs ∨ SqT K H p xs) ∧ atI xs i = some v ∧ Q v H
  | _ => False
theorem ix_Z : IxR X (rIxZ X.K) := by
  intro value slice pins s σ H x y v u Q I rx ry h hs
  cases x <;> first
    | exact h.elim
    | (obtain ⟨i, c, rfl, h1, h2, h3⟩ := h; exact ix_str value slice pins s σ H _ _ v u Q I rx ry ⟨_, i, c, rfl, rfl, h1, h2, h3⟩ hs)
    | (obtain ⟨xs, i, z, rfl, h1 | h1, h2, h3⟩ := h
       · exact ix_list value slice pins s σ H _ _ v u Q I rx ry ⟨_, xs, i, z, rfl, rfl, h1, h2, h3⟩ hs
       · exact ix_tup value slice pins s σ H _ _ v u Q I rx ry ⟨_, xs, i, z, rfl, rfl, h1, h2, h3⟩ hs)
def rSlZ (K : PySem.W.Frag) : V → Option Int → Option Int → Hp → VK → Prop := fun x lo hi H Q => match x with
  | .str z => z.length ≤ sizeLine ∧ Q (.str (Txt.slice z lo hi)) H
  | .ref a => ∃ xs, SqL K H a xs ∧ ∀ p, H p = none → Q (.ref p) (upd H p (.lst (cutV xs lo hi)))
  | _ => False
theorem sl_Z : SlR X (rSlZ X.K) := by
  intro pins s σ H x v vl vu lo hi sl Q I rx hs pl pu h
  cases x <;> first
    | exact h.elim
    | exact C8.sl_txt pins s σ H _ v vl vu lo hi sl Q I rx hs pl pu ⟨_, rfl, h.1, h.2⟩
    | (obtain ⟨xs, h1, h2⟩ := h; exact sl_list pins s σ H _ v vl vu lo hi sl Q I rx hs pl pu ⟨_, xs, rfl, h1, h2⟩)
/-! len, list, tuple -/
def rLenZ (K : PySem.W.Frag) : List V → Hp → VK → Prop := fun vs H Q => match vs with
  | [.str z] => z.length ≤ sizeLine ∧ Q (.int z.length) H
  | [.ref p] => ∃ xs, (SqL K H p xs ∨ SqT K H p xs) ∧ Q (.int xs.length) H
  | _ => False
theorem call_lenZ : CallR X (.builtin "len") (rLenZ X.K) := by
  intro pins s σ H xs us Q I r h
  unfold rLenZ at h
  split at h
  · exact call_len pins s σ H _ us Q I r ⟨_, _, rfl, ⟨h.1, rfl⟩, h.2⟩
  · obtain ⟨xs, h1, h2⟩ := h
    exact call_len_seq pins s σ H _ us Q I r ⟨_, xs, rfl, h1, h2⟩
  · exact h.elim
end
/-! ### defs that are called by their names -/
structure Cl (P : Program) (w : World) (K : PySem.W.Frag) (mg : Str → Option Value) (base : Heap) (CX : CXT) (k : Nat) (x : Str) (sp : Sp) : Prop where
  ex : ∃ (f : Addr) (fd : FuncData) (ps : List Str), FnOk P w K mg base CX k f fd ps sp ∧ mg x = some (.ref f) ∧ PySem.W.keepIn K (.ref f) = true ∧ Binds K fd ps []
section
variable {X : Cx} {k j : Nat} {x : Str} {sp : Sp} {CX : CXT} {E : XK} {p pos : Pos} {e : Expr} {es : List Expr} {t : TA}
theorem pe_cl (c : Cl X.prog X.w X.K X.mg X.base CX k x sp) (hr : Room j X.A) (hk : k ≤ j) (hg : Gl X x) (hx : Passes CX X E) (ha : PA X (e :: es) t)
    (hdb : (x == ("__debug__" : Str)) = false := by decide) (he : starEach (e :: es) X.env = (false, eval e X.env) :: starEach es X.env := by rfl) (hpl : (backTo pos (starEach es X.env)).any (·.1) = false := by rfl) :
    PE X (.Call (.Name x p) (e :: es) [] pos) (tCall sp [] E t) := by
  obtain ⟨f, fd, ps, F, hm, kp, b⟩ := c.ex
  exact pe_call F (hr.mono hk) hg hm kp b .nil hx ha hdb he hpl
end
end Z

set_option maxRecDepth 100000
set_option maxHeartbeats 2000000
namespace Z
open PySem PySem.Spec PyProof.Rows L2
/-! ### heaps: what a bag's draws leave -/
/-- the heap without some addresses -/
def hd (B : Addr → Bool) (H : Hp) : Hp := fun a => if B a = true then none else H a
/-- only what stands at b may be otherwise; new things may stand -/
def Go (b : Addr) (H H' : Hp) : Prop := ∀ a o, a ≠ b → H a = some o → H' a = some o
theorem hd_some {B : Addr → Bool} {H : Hp} {a : Addr} {o : HO} (h : hd B H a = some o) : B a = false ∧ H a = some o := by
  unfold hd at h
  split at h
  · cases h
  · rename_i h1
    exact ⟨by simpa using h1, h⟩
theorem hd_of {B : Addr → Bool} {H : Hp} {a : Addr} {o : HO} (h1 : B a = false) (h : H a = some o) : hd B H a = some o := by
  unfold hd
  rw [h1, if_neg Bool.false_ne_true]
  exact h
theorem hd_same (B : Addr → Bool) (H : Hp) : Same (hd B H) H := fun _ _ h => (hd_some h).2
theorem Go.refl (b : Addr) (H : Hp) : Go b H H := fun _ _ _ h => h
theorem Go.trans {b : Addr} {H H1 H2 : Hp} (x : Go b H H1) (y : Go b H1 H2) : Go b H H2 := fun a o n h => y a o n (x a o n h)
theorem Go.of {b : Addr} {H H' : Hp} (x : Same H H') : Go b H H' := fun a o _ h => x a o h
theorem Go.hd {b : Addr} {B : Addr → Bool} {H H' : Hp} (x : Go b H H') (hb : B b = true) : Same (hd B H) (hd B H') := fun a o h => by
  obtain ⟨h1, h2⟩ := hd_some h
  exact hd_of h1 (x a o (fun e => by rw [e, hb] at h1; cases h1) h2)
theorem Same.hd {B : Addr → Bool} {H H' : Hp} (x : Same H H') : Same (hd B H) (hd B H') := fun a o h => by
  obtain ⟨h1, h2⟩ := hd_some h
  exact hd_of h1 (x a o h2)
theorem same_new {H : Hp} {p : Addr} {o : HO} (h : H p = none) : Same H (upd H p o) := fun b x e => by
  rw [upd_ne (ne_of_none e h)]
  exact e
theorem same_mut {H H' : Hp} {p : Addr} {o : HO} (x : Same H H') (h : H p = none) : Same H (upd H' p o) := fun b u e => by
  rw [upd_ne (ne_of_none e h)]
  exact x b u e
theorem go_mut {b : Addr} {H H' : Hp} {o : HO} (x : Go b H H') : Go b H (upd H' b o) := fun a u n e => by
  rw [upd_ne n]
  exact x a u n e
theorem go_new {b : Addr} {H H' : Hp} {p : Addr} {o : HO} (x : Go b H H') (h : H p = none) : Go b H (upd H' p o) := fun a u n e => by
  rw [upd_ne (ne_of_none e h)]
  exact x a u n e
theorem Same.tup {K : PySem.W.Frag} {H H' : Hp} {a : Addr} {xs : List V} (e : Same H H') (h : SqT K H a xs) : SqT K H' a xs := by
  rcases h with (h | ⟨o, h⟩) | h
  · exact .inl (.inl (e _ _ h))
  · exact .inl (.inr ⟨o, e _ _ h⟩)
  · exact .inr h
theorem sq_of {K : PySem.W.Frag} {H : Hp} {a : Addr} {xs : List V} (h : H a = some (.lst xs)) : SqL K H a xs := .inl (.inl h)
theorem st_of {K : PySem.W.Frag} {H : Hp} {a : Addr} {xs : List V} (h : H a = some (.tup xs)) : SqT K H a xs := .inl (.inl h)
/-! ### the bag -/
def bagL (x0 x1 x2 : Int) (c : Addr) : HO := .lst [.int x0, .int x1, .int x2, .ref c]
structure BagC (K : PySem.W.Frag) (H : Hp) (b c : Addr) (cs : List Int) (x0 x1 x2 : Int) : Prop where
  at_ : H b = some (bagL x0 x1 x2 c)
  cells : SqL K H c (cs.map V.int)
  ne : c ≠ b
  h0 : 0 ≤ x0
  h1 : 0 ≤ x1 ∧ x1 < 2147483647
  h2 : 0 ≤ x2
  hc : ∀ z ∈ cs, 0 ≤ z
/-- a bag: where it stands, where its cells stand, its cells -/
structure Bg where
  b : Addr
  c : Addr
  cs : List Int
def Bag (K : PySem.W.Frag) (H : Hp) (ω : Bg) : Prop := ∃ x0 x1 x2, BagC K H ω.b ω.c ω.cs x0 x1 x2
theorem seq_ne {K : PySem.W.Frag} {H : Hp} {b c : Addr} {o : HO} {xs : List V} (h : SqL K H c xs) (n : c ≠ b) : SqL K (upd H b o) c xs := by
  rcases h with (h | ⟨u, h⟩) | h
  · exact .inl (.inl (by rw [upd_ne n]; exact h))
  · exact .inl (.inr ⟨u, by rw [upd_ne n]; exact h⟩)
  · exact .inr h
theorem BagC.set {K : PySem.W.Frag} {H : Hp} {b c : Addr} {cs : List Int} {x0 x1 x2 : Int} (g : BagC K H b c cs x0 x1 x2) {y0 y1 y2 : Int} (h0 : 0 ≤ y0) (h1 : 0 ≤ y1 ∧ y1 < 2147483647) (h2 : 0 ≤ y2) : BagC K (upd H b (bagL y0 y1 y2 c)) b c cs y0 y1 y2 :=
  ⟨upd_same, seq_ne g.cells g.ne, g.ne, h0, h1, h2, g.hc⟩
theorem Bag.same {K : PySem.W.Frag} {H H' : Hp} {ω : Bg} (g : Bag K H ω) (e : Same H H') : Bag K H' ω := by
  obtain ⟨x0, x1, x2, g⟩ := g
  exact ⟨x0, x1, x2, e _ _ g.at_, e.seq g.cells, g.ne, g.h0, g.h1, g.h2, g.hc⟩
theorem Bag.some {K : PySem.W.Frag} {H : Hp} {ω : Bg} (g : Bag K H ω) : ∃ o, H ω.b = some o := by
  obtain ⟨x0, x1, x2, g⟩ := g
  exact ⟨_, g.at_⟩
/-- a draw: any number from 0 below m -/
def spTake (K : PySem.W.Frag) : Sp := fun vs H Q _ => ∃ (ω : Bg) (m : Int), vs = [.ref ω.b, .int m] ∧ Bag K H ω ∧ 0 < m ∧ m < 2 ^ 62 ∧
  ∀ (v : Int) (H' : Hp), 0 ≤ v → v < m → Bag K H' ω → Go ω.b H H' → Q (.int v) H'
end Z

set_option maxRecDepth 100000
set_option maxHeartbeats 2000000
namespace Z
open PySem PySem.Spec PyProof.Rows L2
/-! ### readings that reckon by themselves -/
@[reducible] def onB (x : V) (Q : Bool → Prop) : Prop := match x with
  | .bl k => Q k
  | _ => False
@[reducible] def onI (x : V) (Q : Int → Prop) : Prop := match x with
  | .int k => Q k
  | _ => False
@[reducible] def onS (x : V) (Q : Str → Prop) : Prop := match x with
  | .str k => Q k
  | _ => False
@[reducible] def onR (x : V) (Q : Addr → Prop) : Prop := match x with
  | .ref k => Q k
  | _ => False
@[reducible] def onV (o : Option (Option V)) (Q : V → Prop) : Prop := match o with
  | some (some v) => Q v
  | _ => False
theorem onB_ex {x : V} {Q : Bool → Prop} (h : onB x Q) : ∃ k, x = .bl k ∧ Q k := by
  cases x <;> first | exact ⟨_, rfl, h⟩ | exact h.elim
theorem onI_ex {x : V} {Q : Int → Prop} (h : onI x Q) : ∃ k, x = .int k ∧ Q k := by
  cases x <;> first | exact ⟨_, rfl, h⟩ | exact h.elim
theorem onS_ex {x : V} {Q : Str → Prop} (h : onS x Q) : ∃ k, x = .str k ∧ Q k := by
  cases x <;> first | exact ⟨_, rfl, h⟩ | exact h.elim
theorem onR_ex {x : V} {Q : Addr → Prop} (h : onR x Q) : ∃ k, x = .ref k ∧ Q k := by
  cases x <;> first | exact ⟨_, rfl, h⟩ | exact h.elim
theorem onV_ex {o : Option (Option V)} {Q : V → Prop} (h : onV o Q) : ∃ v, o = some (some v) ∧ Q v := by
  rcases o with _ | _ | v <;> first | exact ⟨_, rfl, h⟩ | exact h.elim
theorem onB_eq {x : V} {Q : Bool → Prop} : onB x Q = ∃ k, x = .bl k ∧ Q k := propext ⟨onB_ex, fun ⟨k, e, h⟩ => by subst e; exact h⟩
theorem onV_eq {o : Option (Option V)} {Q : V → Prop} : onV o Q = ∃ v, o = some (some v) ∧ Q v := propext ⟨onV_ex, fun ⟨k, e, h⟩ => by subst e; exact h⟩
def zVar (i : Nat) : TE := fun σ H Q => onV σ[i]? fun v => Q v H
theorem zVar_eq (i : Nat) : zVar i = tVar i := by
  funext σ H Q
  exact onV_eq
section
variable {X : Cx}
theorem zv (i : Nat) {x : Str} {pos : Pos} (hN : X.N[i]? = some x := by rfl) (hv : Vis X.env.scope x := by first | exact Or.inl rfl | exact Or.inr (Or.inl rfl) | exact Or.inr (Or.inr rfl)) (hd : (x == ("__debug__" : Str)) = false := by decide)
    (hcd : (x == ("__classdict__" : Str)) = false := by decide) : PE X (.Name x pos) (zVar i) := by
  rw [zVar_eq]
  exact pe_var hN hv hd hcd
def zTest (t : TE) : TT := fun σ H Q => t σ H fun x H' => onB x fun k => Q k H'
theorem zTest_eq (t : TE) : zTest t = tTest t := by
  funext σ H Q
  unfold zTest tTest
  congr
  funext x H'
  exact onB_eq
theorem pz_cmp {a b : Expr} {ta tb : TE} {pos : Pos} {op : CmpOp} {r : R2} (ho : OpR X (compareOp op) r) (ha : PE X a ta) (hb : PE X b tb) (hm : behindInMarks op b = false) : PT X (.Compare a [op] [b] pos) (zTest (tOp r ta tb)) := by
  rw [zTest_eq]
  exact pt_cmpR ho ha hb hm
theorem pz_val {e : Expr} {t : TE} (h : PE X e t) (he : ∀ whole, isTrue e X.env whole = (do let v ← whole; standAt e.pos; holding [v] (truthy v)) := by intro _; rfl) : PT X e (zTest t) := by
  have e1 : zTest t = tB t := by
    rw [zTest_eq]
    rfl
  rw [e1]
  exact pt_val h he
def zChain (r r' : R2) (ta tb tc : TE) : TE := fun σ H Q => ta σ H fun x H1 => tb σ H1 fun y H2 => r x y H2 fun z H3 => onB z fun k => if k = true then tc σ H3 fun w' H4 => r' y w' H4 Q else Q (.bl false) H3
theorem zChain_eq (r r' : R2) (ta tb tc : TE) : zChain r r' ta tb tc = tChain r r' ta tb tc := by
  funext σ H Q
  unfold zChain tChain
  congr
  funext x H1
  congr
  funext y H2
  congr
  funext z H3
  exact onB_eq
theorem pz_chain {a b c : Expr} {ta tb tc : TE} {pos : Pos} {op op' : CmpOp} {r r' : R2} (ho : OpR X (compareOp op) r) (ho' : OpR X (compareOp op') r') (ha : PE X a ta) (hb : PE X b tb) (hc : PE X c tc)
    (hm : lastMarks [op, op'] [b, c] = false := by with_unfolding_all rfl) : PE X (.Compare a [op, op'] [b, c] pos) (zChain r r' ta tb tc) := by
  rw [zChain_eq]
  exact pe_chain ho ho' ha hb hc hm
theorem pz_chainT {a b c : Expr} {ta tb tc : TE} {pos : Pos} {op op' : CmpOp} {r r' : R2} (ho : OpR X (compareOp op) r) (ho' : OpR X (compareOp op') r') (ha : PE X a ta) (hb : PE X b tb) (hc : PE X c tc)
    (hm : lastMarks [op, op'] [b, c] = false := by with_unfolding_all rfl) : PT X (.Compare a [op, op'] [b, c] pos) (zTest (zChain r r' ta tb tc)) := by
  rw [zTest_eq, zChain_eq]
  exact pt_chain ho ho' ha hb hc hm
def zAndV (ta tb : TE) : TE := fun σ H Q => ta σ H fun x H1 => onB x fun c => if c = true then tb σ H1 Q else Q (.bl false) H1
def zOrV (ta tb : TE) : TE := fun σ H Q => ta σ H fun x H1 => onB x fun c => if c = true then Q (.bl true) H1 else tb σ H1 Q
def zNotV (ta : TE) : TE := fun σ H Q => ta σ H fun x H1 => onB x fun c => Q (.bl (!c)) H1
theorem zAndV_eq (ta tb : TE) : zAndV ta tb = tAndV ta tb := by
  funext σ H Q
  unfold zAndV tAndV
  congr
  funext x H1
  exact onB_eq
theorem zOrV_eq (ta tb : TE) : zOrV ta tb = L2.tOrV ta tb := by
  funext σ H Q
  unfold zOrV L2.tOrV
  congr
  funext x H1
  exact onB_eq
theorem zNotV_eq (ta : TE) : zNotV ta = tNotV ta := by
  funext σ H Q
  unfold zNotV tNotV
  congr
  funext x H1
  exact onB_eq
theorem pz_and {a b : Expr} {rest : List Expr} {ta tb : TE} {pos : Pos} (ha : PE X a ta) (hb : PE X (.BoolOp .And (b :: rest) pos) tb) : PE X (.BoolOp .And (a :: b :: rest) pos) (zAndV ta tb) := by
  rw [zAndV_eq]
  exact pe_and ha hb
theorem pz_or {a b : Expr} {rest : List Expr} {ta tb : TE} {pos : Pos} (ha : PE X a ta) (hb : PE X (.BoolOp .Or (b :: rest) pos) tb) : PE X (.BoolOp .Or (a :: b :: rest) pos) (zOrV ta tb) := by
  rw [zOrV_eq]
  exact pe_or ha hb
theorem pz_not {a : Expr} {ta : TE} {pos : Pos} (ha : PE X a ta) : PE X (.UnaryOp .Not a pos) (zNotV ta) := by
  rw [zNotV_eq]
  exact pe_not ha
/-! operators -/
theorem opImp {f : Value → Value → Sem Value} {r r' : R2} (h : OpR X f r) (i : ∀ x y H Q, r' x y H Q → r x y H Q) : OpR X f r' := fun pins s σ H x y v u Q I rx ry q => h pins s σ H x y v u Q I rx ry (i x y H Q q)
theorem unImp {f : Value → Sem Value} {r r' : V → Hp → VK → Prop} (h : UnR X f r) (i : ∀ x H Q, r' x H Q → r x H Q) : UnR X f r' := fun pins s σ H x v Q I rx q => h pins s σ H x v Q I rx (i x H Q q)
theorem callImp {f : Value} {r r' : List V → Hp → VK → Prop} (h : CallR X f r) (i : ∀ xs H Q, r' xs H Q → r xs H Q) : CallR X f r' := fun pins s σ H xs us Q I rx q => h pins s σ H xs us Q I rx (i xs H Q q)
theorem mtImp {id : String} {r r' : V → List V → Hp → VK → Prop} (h : MtR X id r) (i : ∀ x xs H Q, r' x xs H Q → r x xs H Q) : MtR X id r' := fun pins s σ H x xs v us Q I rx rs q => h pins s σ H x xs v us Q I rx rs (i x xs H Q q)
def rSubZ : R2 := fun x y H Q => onI x fun i => onI y fun j => Q (.int (i - j)) H
theorem op_subZ : OpR X (binaryOp .Sub) rSubZ := opImp op_sub fun x y H Q h => by
  obtain ⟨i, rfl, h⟩ := onI_ex h
  obtain ⟨j, rfl, h⟩ := onI_ex h
  exact ⟨i, j, rfl, rfl, h⟩
def rModZ : R2 := fun x y H Q => onI x fun i => onI y fun j => 0 < j ∧ Q (.int (i % j)) H
theorem op_modZ : OpR X (binaryOp .Mod) rModZ := opImp op_mod fun x y H Q h => by
  obtain ⟨i, rfl, h⟩ := onI_ex h
  obtain ⟨j, rfl, h⟩ := onI_ex h
  exact ⟨i, j, rfl, rfl, h⟩
def rDivZ : R2 := fun x y H Q => onI x fun i => onI y fun j => (0 < j ∧ j.natAbs.log2 < 9000) ∧ Q (.int (i / j)) H
theorem op_divZ : OpR X (binaryOp .FloorDiv) rDivZ := opImp op_fdivW fun x y H Q h => by
  obtain ⟨i, rfl, h⟩ := onI_ex h
  obtain ⟨j, rfl, h⟩ := onI_ex h
  exact ⟨i, j, rfl, rfl, h⟩
def rPowZ : R2 := fun x y H Q => onI x fun i => onI y fun j => (0 ≤ j ∧ j ≤ 1000000 ∧ i.natAbs < 2 ^ 64) ∧ Q (.int (i ^ j.toNat)) H
theorem op_powZ : OpR X (binaryOp .Pow) rPowZ := opImp op_pow fun x y H Q h => by
  obtain ⟨i, rfl, h⟩ := onI_ex h
  obtain ⟨j, rfl, h⟩ := onI_ex h
  exact ⟨i, j, rfl, rfl, h⟩
def rNegZ : V → Hp → VK → Prop := fun x H Q => onI x fun i => Q (.int (-i)) H
theorem un_negZ : UnR X (unaryOp .USub) rNegZ := unImp un_neg fun x H Q h => by
  obtain ⟨i, rfl, h⟩ := onI_ex h
  exact ⟨i, rfl, h⟩
def rAbsZ : List V → Hp → VK → Prop := fun vs H Q => match vs with
  | [.int i] => Q (.int (if i < 0 then -i else i)) H
  | _ => False
theorem call_absZ : CallR X (.builtin "abs") rAbsZ := callImp call_abs fun xs H Q h => by
  unfold rAbsZ at h
  split at h
  · exact ⟨_, rfl, h⟩
  · exact h.elim
def rIntZ : List V → Hp → VK → Prop := fun vs H Q => match vs with
  | [.int i] => Q (.int i) H
  | [.bl k] => Q (.int (if k then 1 else 0)) H
  | _ => False
theorem call_intZ : CallR X (.type "int") rIntZ := callImp call_int1 fun xs H Q h => by
  unfold rIntZ at h
  split at h
  · exact .inl ⟨_, rfl, h⟩
  · exact .inr ⟨_, rfl, h⟩
  · exact h.elim
/-- all(list of truths), any(..) -/
def rAllZ (K : PySem.W.Frag) (f : List Bool → Bool) : List V → Hp → VK → Prop := fun vs H Q => match vs with
  | [.ref a] => ∃ bs : List Bool, SqL K H a (bs.map V.bl) ∧ Q (.bl (f bs)) H
  | _ => False
theorem call_allZ (hc : X.calm = true) : CallR X (.builtin "all") (rAllZ X.K fun bs => bs.all id) := callImp (cr_all hc) fun xs H Q h => by
  unfold rAllZ at h
  split at h
  · obtain ⟨bs, h1, h2⟩ := h
    exact ⟨_, bs, rfl, h1, h2⟩
  · exact h.elim
theorem call_anyZ (hc : X.calm = true) : CallR X (.builtin "any") (rAllZ X.K fun bs => bs.any id) := callImp (cr_any hc) fun xs H Q h => by
  unfold rAllZ at h
  split at h
  · obtain ⟨bs, h1, h2⟩ := h
    exact ⟨_, bs, rfl, h1, h2⟩
  · exact h.elim
/-- an item that an augmented store reads -/
def gIxZ (K : PySem.W.Frag) : V → V → Hp → VK → Prop := fun x y H Q => onR x fun p => onI y fun i => ∃ (xs : List V) (v : V), 0 ≤ i ∧ SqL K H p xs ∧ xs[i.toNat]? = some v ∧ Q v H
theorem pget_Z : PGet X (gIxZ X.K) := by
  intro pins s σ H o i ov iv Q I ro ri h
  obtain ⟨p, rfl, h⟩ := onR_ex h
  obtain ⟨j, rfl, h⟩ := onI_ex h
  obtain ⟨xs, v, h0, h1, h2, h3⟩ := h
  refine pget_list pins s σ H _ _ ov iv Q I ro ri ⟨p, xs, j.toNat, v, rfl, ?_, h1, h2, h3⟩
  rw [Int.toNat_of_nonneg h0]
def rSetZ : TSet := fun o i v H Q => onR o fun p => onI i fun k => ∃ xs, H p = some (.lst xs) ∧ (0 ≤ k ∧ k < xs.length) ∧ Q (upd H p (.lst (xs.set k.toNat v)))
theorem set_Z : PSet X rSetZ := by
  intro pins s σ H o i v ov iv u Q I ro ri rv h
  obtain ⟨p, rfl, h⟩ := onR_ex h
  obtain ⟨k, rfl, h⟩ := onI_ex h
  obtain ⟨xs, h1, h2, h3⟩ := h
  refine set_list pins s σ H _ _ v ov iv u Q I ro ri rv ⟨p, xs, k, k.toNat, rfl, rfl, h1, ?_, h3⟩
  unfold ixN
  rw [if_pos h2.1, if_pos h2.2]
def ipZ : TIp := fun x y H Q => onI x fun i => onI y fun j => Q (.int (i + j)) H
theorem ip_Z : PIp X .Add ipZ := by
  intro pins s σ H x y v u Q I r1 r2 h
  obtain ⟨i, rfl, h⟩ := onI_ex h
  obtain ⟨j, rfl, h⟩ := onI_ex h
  exact ip_add pins s σ H _ _ v u Q I r1 r2 ⟨i, j, rfl, rfl, h⟩
end
end Z
namespace Z
open PySem PySem.Spec PyProof.Rows L2
section
variable {K : PySem.W.Frag} {H : Hp} {p : Addr} {xs : List V} {i : Int} {v : V} {Q : VK}
theorem ixL (h : SqL K H p xs) (e : atI xs i = some v) (q : Q v H) : rIxZ K (.ref p) (.int i) H Q := ⟨xs, i, v, rfl, .inl h, e, q⟩
theorem ixT (h : SqT K H p xs) (e : atI xs i = some v) (q : Q v H) : rIxZ K (.ref p) (.int i) H Q := ⟨xs, i, v, rfl, .inr h, e, q⟩
theorem ixN (h : SqL K H p xs) {j : Nat} (e : xs[j]? = some v) (q : Q v H) : rIxZ K (.ref p) (.int (j : Int)) H Q := ⟨xs, j, v, rfl, .inl h, atI_nat e, q⟩
theorem lenL {n : Int} (h : SqL K H p xs) (e : (xs.length : Int) = n) (q : Q (.int n) H) : rLenZ K [.ref p] H Q := ⟨xs, .inl h, by rw [e]; exact q⟩
end
theorem eqI {K : PySem.W.Frag} {f : Bool → Bool} {i j : Int} {H : Hp} {Q : VK} (q : Q (.bl (f (decide (i = j)))) H) : rEqZ K f (.int i) (.int j) H Q := by
  refine ⟨rfl, ?_⟩
  have e : decide (V.int i = V.int j) = decide (i = j) := by
    rw [Bool.eq_iff_iff]
    simp
  rw [e]
  exact q
theorem eqS {K : PySem.W.Frag} {f : Bool → Bool} {i j : Str} {H : Hp} {Q : VK} (q : Q (.bl (f (decide (i = j)))) H) : rEqZ K f (.str i) (.str j) H Q := by
  refine ⟨rfl, ?_⟩
  have e : decide (V.str i = V.str j) = decide (i = j) := by
    rw [Bool.eq_iff_iff]
    simp
  rw [e]
  exact q
theorem iteD {c A B : Prop} [Decidable c] (h1 : c → A) (h2 : ¬ c → B) : if decide c = true then A else B := by
  by_cases h : c
  · rw [if_pos (decide_eq_true h)]
    exact h1 h
  · rw [if_neg (by rw [decide_eq_true_iff]; exact h)]
    exact h2 h
theorem iteB {c : Bool} {A B : Prop} (h1 : c = true → A) (h2 : c = false → B) : if c = true then A else B := by
  cases c with
  | true => rw [if_pos rfl]; exact h1 rfl
  | false => rw [if_neg Bool.false_ne_true]; exact h2 rfl
end Z

set_option maxRecDepth 100000
set_option maxHeartbeats 2000000
namespace Z
open PySem PySem.Spec PyProof.Rows L2
/-! ### things: data of any depth, dicts by texts within -/
mutual
inductive Th (K : PySem.W.Frag) (H : Hp) : V → PyData → Prop
  | non : Th K H .non .none
  | bl (b : Bool) : Th K H (.bl b) (.bool b)
  | int (i : Int) : Th K H (.int i) (.int i)
  | str (x : Str) : Th K H (.str x) (.str x)
  | lst {a : Addr} {xs : List V} {ds : List PyData} : SqL K H a xs → ThA K H xs ds → Th K H (.ref a) (.list ds)
  | tup {a : Addr} {xs : List V} {ds : List PyData} : SqT K H a xs → ThA K H xs ds → Th K H (.ref a) (.tuple ds)
  | dic {a : Addr} {kvs : List (Key × V)} {ps : List (PyData × PyData)} : H a = some (.dK kvs) → ThD K H kvs ps → Th K H (.ref a) (.dict ps)
inductive ThA (K : PySem.W.Frag) (H : Hp) : List V → List PyData → Prop
  | nil : ThA K H [] []
  | cons {v : V} {vs : List V} {d : PyData} {ds : List PyData} : Th K H v d → ThA K H vs ds → ThA K H (v :: vs) (d :: ds)
inductive ThD (K : PySem.W.Frag) (H : Hp) : List (Key × V) → List (PyData × PyData) → Prop
  | nil : ThD K H [] []
  | cons {k : Str} {v : V} {vs : List (Key × V)} {d : PyData} {ds : List (PyData × PyData)} : Th K H v d → ThD K H vs ds → ThD K H ((Sum.inr k, v) :: vs) ((.str k, d) :: ds)
end
section
variable {K : PySem.W.Frag} {H H' : Hp}
mutual
theorem Th.mono (e : Same H H') : ∀ (d : PyData) (v : V), Th K H v d → Th K H' v d
  | .none, _, .non => .non
  | .bool _, _, .bl b => .bl b
  | .int _, _, .int i => .int i
  | .str _, _, .str x => .str x
  | .list ds, _, .lst h a => .lst (e.seq h) (ThA.mono e ds _ a)
  | .tuple ds, _, .tup h a => .tup (Same.tup e h) (ThA.mono e ds _ a)
  | .dict ps, _, .dic h a => .dic (e _ _ h) (ThD.mono e ps _ a)
theorem ThA.mono (e : Same H H') : ∀ (ds : List PyData) (vs : List V), ThA K H vs ds → ThA K H' vs ds
  | [], _, .nil => .nil
  | d :: ds, _, .cons h a => .cons (Th.mono e d _ h) (ThA.mono e ds _ a)
theorem ThD.mono (e : Same H H') : ∀ (ds : List (PyData × PyData)) (vs : List (Key × V)), ThD K H vs ds → ThD K H' vs ds
  | [], _, .nil => .nil
  | (_, d) :: ds, _, .cons h a => .cons (Th.mono e d _ h) (ThD.mono e ds _ a)
end
mutual
theorem Th.dp : ∀ (d : PyData) (v : V), Th K H v d → d.hasDict = false → Dp K H v d
  | .none, _, .non, _ => .non
  | .bool _, _, .bl b, _ => .bl b
  | .int _, _, .int i, _ => .int i
  | .str _, _, .str x, _ => .str x
  | .list ds, _, .lst h a, n => .lst h (ThA.dp ds _ a (by simpa only [PyData.hasDict] using n))
  | .tuple ds, _, .tup h a, n => .tup h (ThA.dp ds _ a (by simpa only [PyData.hasDict] using n))
  | .dict _, _, .dic _ _, n => by simp [PyData.hasDict] at n
theorem ThA.dp : ∀ (ds : List PyData) (vs : List V), ThA K H vs ds → PyData.hasDictAll ds = false → DpAll K H vs ds
  | [], _, .nil, _ => .nil
  | d :: ds, _, .cons h a, n => by
    have n2 : d.hasDict = false ∧ PyData.hasDictAll ds = false := by simpa only [PyData.hasDictAll, Bool.or_eq_false_iff] using n
    exact .cons (Th.dp d _ h n2.1) (ThA.dp ds _ a n2.2)
end
theorem ThA.len : ∀ {ds : List PyData} {vs : List V}, ThA K H vs ds → vs.length = ds.length
  | _, _, .nil => rfl
  | _, _, .cons _ a => by rw [List.length_cons, List.length_cons, ThA.len a]
theorem ThA.get : ∀ {ds : List PyData} {vs : List V}, ThA K H vs ds → ∀ {i : Nat} {v : V}, vs[i]? = some v → ∃ d, ds[i]? = some d ∧ Th K H v d
  | _, _, .nil, i, v, e => by simp at e
  | _, _, .cons h a, 0, v, e => by
    cases (Option.some.inj e)
    exact ⟨_, rfl, h⟩
  | _, _, .cons h a, i + 1, v, e => ThA.get a (i := i) e
theorem ThA.at_ : ∀ {ds : List PyData} {vs : List V}, ThA K H vs ds → ∀ {i : Nat} {d : PyData}, ds[i]? = some d → ∃ v, vs[i]? = some v ∧ Th K H v d
  | _, _, .nil, i, v, e => by simp at e
  | _, _, .cons h a, 0, v, e => by
    cases (Option.some.inj e)
    exact ⟨_, rfl, h⟩
  | _, _, .cons h a, i + 1, v, e => ThA.at_ a (i := i) e
theorem ThA.app : ∀ {ds es : List PyData} {vs us : List V}, ThA K H vs ds → ThA K H us es → ThA K H (vs ++ us) (ds ++ es)
  | _, _, _, _, .nil, b => b
  | _, _, _, _, .cons h a, b => .cons h (ThA.app a b)
theorem ThA.take : ∀ {ds : List PyData} {vs : List V} (n : Nat), ThA K H vs ds → ThA K H (vs.take n) (ds.take n)
  | _, _, 0, _ => .nil
  | _, _, n + 1, .nil => .nil
  | _, _, n + 1, .cons h a => .cons h (ThA.take n a)
theorem ThA.drop : ∀ {ds : List PyData} {vs : List V} (n : Nat), ThA K H vs ds → ThA K H (vs.drop n) (ds.drop n)
  | _, _, 0, a => a
  | _, _, n + 1, .nil => .nil
  | _, _, n + 1, .cons h a => ThA.drop n a
theorem ThA.set : ∀ {ds : List PyData} {vs : List V} (n : Nat) {v : V} {d : PyData}, ThA K H vs ds → Th K H v d → ThA K H (vs.set n v) (ds.set n d)
  | _, _, _, _, _, .nil, _ => .nil
  | _, _, 0, _, _, .cons h a, t => .cons t a
  | _, _, n + 1, _, _, .cons h a, t => .cons h (ThA.set n a t)
theorem ThA.strs : ∀ (l : List Str), ThA K H (l.map V.str) (l.map PyData.str)
  | [] => .nil
  | x :: l => .cons (.str x) (ThA.strs l)
/-- the name of a thing's class -/
def tyOf : PyData → String
  | .none => "NoneType"
  | .bool _ => "bool"
  | .int _ => "int"
  | .str _ => "str"
  | .list _ => "list"
  | .tuple _ => "tuple"
  | .dict _ => "dict"
theorem ty_list {a : Addr} {xs : List V} (h : SqL K H a xs) : TyX K H (.ref a) (.type "list") := by
  rcases h with (h | ⟨o, h⟩) | ⟨o, its, n, h1, h2, _⟩
  · exact .base (.lst h)
  · exact .base (.frz h)
  · exact .kList h1 h2
theorem ty_tup {a : Addr} {xs : List V} (h : SqT K H a xs) : TyX K H (.ref a) (.type "tuple") := by
  rcases h with (h | ⟨o, h⟩) | ⟨o, its, n, h1, h2, _⟩
  · exact .base (.tup h)
  · exact .fTuple h
  · exact .kTuple h1 h2
theorem Th.ty {v : V} {d : PyData} (h : Th K H v d) : TyX K H v (.type (tyOf d)) := by
  cases h with
  | non => exact .base .non
  | bl b => exact .base (.bl b)
  | int i => exact .base (.int i)
  | str x => exact .base (.str x)
  | lst h _ => exact ty_list h
  | tup h _ => exact ty_tup h
  | dic h _ => exact .base (.dK h)
end
/-- isinstance of a thing and a built-in class -/
def rIsiZ (K : PySem.W.Frag) : List V → Hp → VK → Prop := fun vs H Q => match vs with
  | [x, .ty n] => ∃ d b, Th K H x d ∧ kitB (tyOf d) n = some b ∧ Q (.bl b) H
  | _ => False
section
variable {X : Cx} {pins : List (Addr × Obj)} {σ : L2.St} {H : Hp} {s : Shared}
theorem call_isiZ : CallR X (.builtin "isinstance") (rIsiZ X.K) := callImp call_isi fun xs H Q h => by
  unfold rIsiZ at h
  split at h
  · obtain ⟨d, b, h1, h2, h3⟩ := h
    exact ⟨_, _, _, _, b, rfl, .ty _, h1.ty, kit_ty h2, h3⟩
  · exact h.elim
/-! what stands there reads as the thing -/
theorem kv_len : ∀ {kvs : List (Key × V)} {vs : List (Key × Value)}, KV kvs vs → kvs.map (·.1) = vs.map (·.1)
  | _, _, .nil => rfl
  | _, _, .cons r t => by rw [List.map_cons, List.map_cons, kv_len t, r.1]
mutual
theorem Th.reads (I : Inv X pins σ H s) : ∀ (d : PyData) (v : V) (u : Value), Th X.K H v d → RelV v u → ∃ as, Reads s.heap u d as
  | .none, _, _, .non, r => by
    cases r
    exact ⟨_, Reads.none⟩
  | .bool b, _, _, .bl _, r => by
    cases r
    exact ⟨_, Reads.bool b⟩
  | .int i, _, _, .int _, ⟨t, r⟩ => by
    subst r
    exact ⟨_, Reads.int i t⟩
  | .str x, _, _, .str _, ⟨t, r⟩ => by
    subst r
    exact ⟨_, Reads.str x t⟩
  | .list ds, _, _, .lst hs ha, r => by
    cases r
    obtain ⟨its, rv, ⟨o, n, ho, hc, _, hdt⟩, _⟩ := I.list hs
    obtain ⟨as, q⟩ := ThA.reads I ds _ its ha rv
    exact ⟨_, .list ho hc hdt q⟩
  | .tuple ds, _, _, .tup hs ha, r => by
    cases r
    obtain ⟨its, rv, ⟨o, ho, hc, n, hdt⟩, _⟩ := I.tuple hs
    obtain ⟨as, q⟩ := ThA.reads I ds _ its ha rv
    exact ⟨_, .tuple ho hc hdt q⟩
  | .dict ps, _, _, .dic ha hb, r => by
    cases r
    obtain ⟨_, _, vs, rv, o, es, ep, ho, hx, hdt, _, hp, _⟩ := I.hok _ _ ha
    obtain ⟨as, bs, q1, q2⟩ := ThD.reads I ps _ vs es.toList hb rv hp
    exact ⟨_, .dict ho hx.1 hdt q1 q2⟩
theorem ThA.reads (I : Inv X pins σ H s) : ∀ (ds : List PyData) (vs : List V) (us : List Value), ThA X.K H vs ds → Vals vs us → ∃ as, ReadsAll s.heap us ds as
  | [], _, _, .nil, .nil => ⟨_, .nil⟩
  | d :: ds, _, _, .cons h a, .cons r t => by
    obtain ⟨as, q⟩ := Th.reads I d _ _ h r
    obtain ⟨bs, q'⟩ := ThA.reads I ds _ _ a t
    exact ⟨_, .cons q q'⟩
theorem ThD.reads (I : Inv X pins σ H s) : ∀ (ps : List (PyData × PyData)) (kvs : List (Key × V)) (vs : List (Key × Value)) (es : List DictEntry), ThD X.K H kvs ps → KV kvs vs → Pairs (mixKind X.prog X.w) es vs →
    ∃ as bs, ReadsAll s.heap (es.map (·.key)) (ps.map (·.1)) as ∧ ReadsAll s.heap (es.map (·.val)) (ps.map (·.2)) bs
  | [], _, _, _, .nil, .nil, .nil => ⟨_, _, .nil, .nil⟩
  | (_, d) :: ps, _, _, _, .cons (k := k) h a, .cons r t, .cons (e := e) p1 p2 p => by
    obtain ⟨as, bs, q1, q2⟩ := ThD.reads I ps _ _ _ a t p
    obtain ⟨cs, q⟩ := Th.reads I d _ _ h r.2
    have k1 : keyIs (Sum.inr k) e.key = true := by
      have z := p1
      rw [← r.1] at z
      exact z
    obtain ⟨x, t1, e1, e2⟩ : ∃ x t, k = x ∧ e.key = Value.str x t := by
      rcases keyIs_shape k1 with ⟨i, t, e1, _⟩ | ⟨x, t, e1, e2⟩
      · cases e1
      · exact ⟨x, t, Sum.inr.inj e1, e2⟩
    subst e1
    refine ⟨[] ++ as, cs ++ bs, ?_, ?_⟩
    · rw [List.map_cons, List.map_cons, e2]
      exact .cons (.str _ _) q1
    · rw [List.map_cons, List.map_cons, p2]
      exact .cons q q2
end
/-! repr of a thing -/
theorem ThD.rpK {h : Heap} : ∀ (ps : List (PyData × PyData)) (kvs : List (Key × V)) (vs : List (Key × Value)) (es : List DictEntry), ThD X.K H kvs ps → KV kvs vs → Pairs (mixKind X.prog X.w) es vs →
    PyData.showableAll (ps.map (·.1)) = true → (∀ t ∈ PyData.shownAll (ps.map (·.1)), t.length ≤ sizeLine) →
    ∃ bs, ReadAtMost h (PyData.depthAll (ps.map (·.1))) bs ∧ ReprAllK X.prog X.w bs h (PyData.depthAll (ps.map (·.1))) (es.map (·.key)) (PyData.shownAll (ps.map (·.1)))
  | [], _, _, _, .nil, .nil, .nil, _, _ => by
    refine ⟨[], (fun _ z => nomatch z), ?_⟩
    simp only [List.map_nil, PyData.shownAll]
    exact .nil
  | (_, d) :: ps, _, _, _, .cons (k := k) _ a, .cons r t, .cons (e := e) p1 _ p, w1, w2 => by
    have w1' : PyData.showableAll (ps.map (·.1)) = true := by simpa only [List.map_cons, PyData.showableAll, PyData.showable, Bool.true_and] using w1
    obtain ⟨b2, hb2, k2⟩ := ThD.rpK ps _ _ _ a t p w1' fun x m => w2 x (by simp only [List.map_cons, PyData.shownAll]; exact List.mem_cons_of_mem _ m)
    have w3 := w2 (reprText k) (by simp only [List.map_cons, PyData.shownAll, PyData.shown]; exact List.mem_cons_self)
    have k1 : keyIs (Sum.inr k) e.key = true := by
      have z := p1
      rw [← r.1] at z
      exact z
    obtain ⟨x, t1, e1, e2⟩ : ∃ x t, k = x ∧ e.key = Value.str x t := by
      rcases keyIs_shape k1 with ⟨i, t, e1, _⟩ | ⟨x, t, e1, e2⟩
      · cases e1
      · exact ⟨x, t, Sum.inr.inj e1, e2⟩
    subst e1
    refine ⟨b2, ?_, ?_⟩
    · simp only [List.map_cons, PyData.depthAll]
      exact .mono hb2 (Nat.le_max_right _ _)
    · simp only [List.map_cons, PyData.depthAll, PyData.shownAll, PyData.shown]
      rw [e2]
      exact .cons (ReprK.of_is (ReprIs.str _ _ w3) _ _ _) (k2.more_le (fun b m => m) (Nat.le_max_right _ _))
mutual
theorem Th.rp (I : Inv X pins σ H s) : ∀ (d : PyData) (v : V) (u : Value), Th X.K H v d → RelV v u → d.showable = true → d.shown.length ≤ sizeLine →
    ∃ bs, ReadAtMost s.heap d.depth bs ∧ ReprK X.prog X.w bs s.heap d.depth u d.shown
  | .none, _, _, .non, r, _, _ => by
    cases r
    refine ⟨[], (fun _ z => nomatch z), ?_⟩
    simp only [PyData.shown]
    exact ReprK.of_is ReprIs.none _ _ _
  | .bool b, _, _, .bl _, r, _, _ => by
    cases r
    refine ⟨[], (fun _ z => nomatch z), ?_⟩
    simp only [PyData.shown]
    exact ReprK.of_is (ReprIs.bool b) _ _ _
  | .int i, _, _, .int _, ⟨t, r⟩, w1, _ => by
    subst r
    refine ⟨[], (fun _ z => nomatch z), ?_⟩
    simp only [PyData.shown]
    exact ReprK.of_is (ReprIs.int t (by simpa [PyData.showable] using w1)) _ _ _
  | .str x, _, _, .str _, ⟨t, r⟩, _, w2 => by
    subst r
    refine ⟨[], (fun _ z => nomatch z), ?_⟩
    simp only [PyData.shown] at w2 ⊢
    exact ReprK.of_is (ReprIs.str x t w2) _ _ _
  | .list ds, _, _, .lst hs ha, r, w1, w2 => by
    have self := Th.reads I _ _ _ (.lst hs ha) r
    cases r
    obtain ⟨rs, self⟩ := self
    obtain ⟨its, rv, ⟨o, n, ho, hc, _, hdt⟩, _⟩ := I.list hs
    simp only [PyData.shown] at w2
    obtain ⟨bs, hb, hk⟩ := ThA.rp I ds _ its ha rv (by simpa only [PyData.showable] using w1) fun t ht => Nat.le_trans (listText_mem_le ht) w2
    have out := not_mem_of_deeper self (by simp only [PyData.depth]; omega) hb
    refine ⟨_ :: bs, .cons self (by simp only [PyData.depth]; omega) hb, ?_⟩
    simp only [PyData.depth, PyData.shown]
    cases its with
    | nil =>
      cases rv
      cases ha
      simp only [PyData.shownAll, listText_nil]
      exact .listEmpty ho hc hdt
    | cons y l => exact .list ho hc hdt out (by simpa using hk.length_eq) fun i y e => hk.item i y (by simpa using e)
  | .tuple ds, _, _, .tup hs ha, r, w1, w2 => by
    have self := Th.reads I _ _ _ (.tup hs ha) r
    cases r
    obtain ⟨rs, self⟩ := self
    obtain ⟨its, rv, ⟨o, ho, hc, n, hdt⟩, _⟩ := I.tuple hs
    simp only [PyData.shown] at w2
    obtain ⟨bs, hb, hk⟩ := ThA.rp I ds _ its ha rv (by simpa only [PyData.showable] using w1) fun t ht => Nat.le_trans (tupleText_mem_le ht) w2
    have out := not_mem_of_deeper self (by simp only [PyData.depth]; omega) hb
    refine ⟨_ :: bs, .cons self (by simp only [PyData.depth]; omega) hb, ?_⟩
    simp only [PyData.depth, PyData.shown]
    exact .tuple ho hc hdt out hk
  | .dict ps, _, _, .dic ha hb, r, w1, w2 => by
    have self := Th.reads I _ _ _ (.dic ha hb) r
    cases r
    obtain ⟨rs, self⟩ := self
    obtain ⟨_, sy, vs, rv, o, es, ep, ho, hx, hdt, _, hp, _⟩ := I.hok _ _ ha
    simp only [PyData.shown] at w2
    obtain ⟨z1, z2⟩ := PyData.showableKv_split ps (by simpa only [PyData.showable] using w1)
    obtain ⟨b1, hb1, k1⟩ := ThD.rpK ps _ vs es.toList hb rv hp z1 fun t ht => let ⟨p, m, l⟩ := PyData.shownKv_key_le ps t ht; Nat.le_trans l (Nat.le_trans (dictText_mem_le m) w2)
    obtain ⟨b2, hb2, k2⟩ := ThD.rp I ps _ vs es.toList hb rv hp z2 fun t ht => let ⟨p, m, l⟩ := PyData.shownKv_val_le ps t ht; Nat.le_trans l (Nat.le_trans (dictText_mem_le m) w2)
    have both : ReadAtMost s.heap (PyData.depthKv ps) (b1 ++ b2) := .append (.mono hb1 (PyData.depthAll_keys_le ps)) (.mono hb2 (PyData.depthAll_vals_le ps))
    have out := not_mem_of_deeper self (by simp only [PyData.depth]; omega) both
    refine ⟨_ :: (b1 ++ b2), .cons self (by simp only [PyData.depth]; omega) both, ?_⟩
    simp only [PyData.depth, PyData.shown, PyData.shownKv_eq]
    exact .dict ho hx.1 hdt sy out (.of_two es.toList _ _ (k1.more_le (fun b m => List.mem_append_left _ m) (PyData.depthAll_keys_le ps)) (k2.more_le (fun b m => List.mem_append_right _ m) (PyData.depthAll_vals_le ps)))
theorem ThA.rp (I : Inv X pins σ H s) : ∀ (ds : List PyData) (vs : List V) (us : List Value), ThA X.K H vs ds → Vals vs us → PyData.showableAll ds = true → (∀ t ∈ PyData.shownAll ds, t.length ≤ sizeLine) →
    ∃ bs, ReadAtMost s.heap (PyData.depthAll ds) bs ∧ ReprAllK X.prog X.w bs s.heap (PyData.depthAll ds) us (PyData.shownAll ds)
  | [], _, _, .nil, .nil, _, _ => by
    refine ⟨[], (fun _ z => nomatch z), ?_⟩
    simp only [PyData.shownAll]
    exact .nil
  | d :: ds, _, _, .cons h a, .cons r t, w1, w2 => by
    have w1' : d.showable = true ∧ PyData.showableAll ds = true := by simpa only [PyData.showableAll, Bool.and_eq_true] using w1
    obtain ⟨b1, hb1, k1⟩ := Th.rp I d _ _ h r w1'.1 (w2 _ (by simp only [PyData.shownAll]; exact List.mem_cons_self))
    obtain ⟨b2, hb2, k2⟩ := ThA.rp I ds _ _ a t w1'.2 fun x m => w2 x (by simp only [PyData.shownAll]; exact List.mem_cons_of_mem _ m)
    refine ⟨b1 ++ b2, ?_, ?_⟩
    · simp only [PyData.depthAll]
      exact .append (.mono hb1 (Nat.le_max_left _ _)) (.mono hb2 (Nat.le_max_right _ _))
    · simp only [PyData.depthAll, PyData.shownAll]
      exact .cons ((k1.more fun b m => List.mem_append_left _ m).level_le (Nat.le_max_left _ _)) (k2.more_le (fun b m => List.mem_append_right _ m) (Nat.le_max_right _ _))
theorem ThD.rp (I : Inv X pins σ H s) : ∀ (ps : List (PyData × PyData)) (kvs : List (Key × V)) (vs : List (Key × Value)) (es : List DictEntry), ThD X.K H kvs ps → KV kvs vs → Pairs (mixKind X.prog X.w) es vs →
    PyData.showableAll (ps.map (·.2)) = true → (∀ t ∈ PyData.shownAll (ps.map (·.2)), t.length ≤ sizeLine) →
    ∃ bs, ReadAtMost s.heap (PyData.depthAll (ps.map (·.2))) bs ∧ ReprAllK X.prog X.w bs s.heap (PyData.depthAll (ps.map (·.2))) (es.map (·.val)) (PyData.shownAll (ps.map (·.2)))
  | [], _, _, _, .nil, .nil, .nil, _, _ => by
    refine ⟨[], (fun _ z => nomatch z), ?_⟩
    simp only [List.map_nil, PyData.shownAll]
    exact .nil
  | (_, d) :: ps, _, _, _, .cons (k := k) h a, .cons r t, .cons (e := e) p1 p2 p, w1, w2 => by
    have w1' : d.showable = true ∧ PyData.showableAll (ps.map (·.2)) = true := by simpa only [List.map_cons, PyData.showableAll, Bool.and_eq_true] using w1
    obtain ⟨b1, hb1, k1⟩ := Th.rp I d _ _ h r.2 w1'.1 (w2 _ (by simp only [List.map_cons, PyData.shownAll]; exact List.mem_cons_self))
    obtain ⟨b2, hb2, k2⟩ := ThD.rp I ps _ _ _ a t p w1'.2 fun x m => w2 x (by simp only [List.map_cons, PyData.shownAll]; exact List.mem_cons_of_mem _ m)
    refine ⟨b1 ++ b2, ?_, ?_⟩
    · simp only [List.map_cons, PyData.depthAll]
      exact .append (.mono hb1 (Nat.le_max_left _ _)) (.mono hb2 (Nat.le_max_right _ _))
    · simp only [List.map_cons, PyData.depthAll, PyData.shownAll]
      rw [p2]
      exact .cons ((k1.more fun b m => List.mem_append_left _ m).level_le (Nat.le_max_left _ _)) (k2.more_le (fun b m => List.mem_append_right _ m) (Nat.le_max_right _ _))
end
theorem repr_top (I : Inv X pins σ H s) {d : PyData} {v : V} {u : Value} {Q : Value → Shared → Prop} {E : Value → Shared → Prop} (h : Th X.K H v d) (r : RelV v u) (w1 : d.showable = true) (w2 : d.shown.length ≤ sizeLine)
    (hg : X.A.guards = some []) (hu : X.A.units + (d.depth + 1) < cLine)
    (q : ∀ h' t tk, (∀ b o, s.heap.get? b = some o → h'.get? b = some o) → Q (.str d.shown t) { s with heap := h', toks := tk }) : wpAny (model X.prog X.w) X.A (call (.builtin "repr") [u]) Q E s := by
  cases h with
  | non =>
    cases r
    exact PySem.P.repr_of_none (by have z := q s.heap s.toks (s.toks + 1) (fun _ _ e => e); simpa only [PyData.shown] using z)
  | bl b =>
    cases r
    exact PySem.P.repr_of_bool (by have z := q s.heap s.toks (s.toks + 1) (fun _ _ e => e); simpa only [PyData.shown] using z)
  | int i =>
    obtain ⟨t, rfl⟩ := r
    exact PySem.P.repr_of_int (by simpa [PyData.showable] using w1) (by have z := q s.heap s.toks (s.toks + 1) (fun _ _ e => e); simpa only [PyData.shown] using z)
  | str x =>
    obtain ⟨t, rfl⟩ := r
    exact PySem.P.repr_of_str (by have z := q s.heap s.toks (s.toks + 1) (fun _ _ e => e); simpa only [PyData.shown] using z) (by simpa only [PyData.shown] using w2)
  | @lst a xs ds hs ha =>
    obtain ⟨rs, self⟩ := Th.reads I _ _ _ (.lst hs ha) r
    cases r
    obtain ⟨its, rv, ⟨o, n, ho, hc, _, hdt⟩, _⟩ := I.list hs
    simp only [PyData.shown] at w2 q
    obtain ⟨bs, hb, hk⟩ := ThA.rp I ds _ its ha rv (by simpa only [PyData.showable] using w1) fun t ht => Nat.le_trans (listText_mem_le ht) w2
    have out := not_mem_of_deeper self (by simp only [PyData.depth]; omega) hb
    simp only [PyData.depth] at hu
    have go : wpAny (model X.prog X.w) X.A.in1 (call (.builtin "list.__repr__") [.ref a]) (fun z s' => ∃ y t, z = .str y t ∧ Q z s') E s := by
      cases its with
      | nil =>
        cases rv
        cases ha
        simp only [PyData.shownAll, listText_nil] at q
        exact call_list_repr_empty ⟨o, ho, hc⟩ ho hdt ⟨_, _, rfl, q s.heap _ _ fun _ _ e => e⟩
      | cons y l =>
        exact call_list_reprK ho hc hdt out (by simpa using hk.length_eq) (fun i y e => hk.item i y (by simpa using e)) hg (fun b _ => Clear.nil b) (by show X.A.units + 1 + (PyData.depthAll ds + 1) < cLine; omega) (fun _ _ e => e)
          (fun h' t tk k => ⟨_, _, rfl, q h' t tk k⟩) w2
    exact call_repr_slot (by omega) ⟨o, ho, hc⟩ F.slot_list_repr.toG go
  | @tup a xs ds hs ha =>
    obtain ⟨rs, self⟩ := Th.reads I _ _ _ (.tup hs ha) r
    cases r
    obtain ⟨its, rv, ⟨o, ho, hc, n, hdt⟩, _⟩ := I.tuple hs
    simp only [PyData.shown] at w2 q
    obtain ⟨bs, hb, hk⟩ := ThA.rp I ds _ its ha rv (by simpa only [PyData.showable] using w1) fun t ht => Nat.le_trans (tupleText_mem_le ht) w2
    have out := not_mem_of_deeper self (by simp only [PyData.depth]; omega) hb
    simp only [PyData.depth] at hu
    exact call_repr_slot (by omega) ⟨o, ho, hc⟩ F.slot_tuple_repr
      (call_tuple_reprK ho hc hdt out hk hg (fun b _ => Clear.nil b) (by show X.A.units + 1 + (PyData.depthAll ds + 1) < cLine; omega) (fun _ _ e => e) (fun h' t tk k => ⟨_, _, rfl, q h' t tk k⟩) w2)
  | @dic a kvs ps ha hb =>
    obtain ⟨rs, self⟩ := Th.reads I _ _ _ (.dic ha hb) r
    cases r
    obtain ⟨_, sy, vs, rv, o, es, ep, ho, hx, hdt, _, hp, _⟩ := I.hok _ _ ha
    simp only [PyData.shown] at w2 q
    obtain ⟨z1, z2⟩ := PyData.showableKv_split ps (by simpa only [PyData.showable] using w1)
    obtain ⟨b1, hb1, k1⟩ := ThD.rpK (h := s.heap) ps _ vs es.toList hb rv hp z1 fun t ht => let ⟨p, m, l⟩ := PyData.shownKv_key_le ps t ht; Nat.le_trans l (Nat.le_trans (dictText_mem_le m) w2)
    obtain ⟨b2, hb2, k2⟩ := ThD.rp I ps _ vs es.toList hb rv hp z2 fun t ht => let ⟨p, m, l⟩ := PyData.shownKv_val_le ps t ht; Nat.le_trans l (Nat.le_trans (dictText_mem_le m) w2)
    have both : ReadAtMost s.heap (PyData.depthKv ps) (b1 ++ b2) := .append (.mono hb1 (PyData.depthAll_keys_le ps)) (.mono hb2 (PyData.depthAll_vals_le ps))
    have out := not_mem_of_deeper self (by simp only [PyData.depth]; omega) both
    simp only [PyData.depth] at hu
    simp only [PyData.shownKv_eq] at q
    exact call_repr_slot (by omega) ⟨o, ho, hx.1⟩ F.slot_dict_repr
      (call_dict_reprK ho hx.1 hdt sy out (.of_two es.toList _ _ (k1.more_le (fun b m => List.mem_append_left _ m) (PyData.depthAll_keys_le ps)) (k2.more_le (fun b m => List.mem_append_right _ m) (PyData.depthAll_vals_le ps)))
        hg (fun b _ => Clear.nil b) (by show X.A.units + 1 + (PyData.depthKv ps + 1) < cLine; omega) (fun _ _ e => e) (fun h' t tk k => ⟨_, _, rfl, q h' t tk k⟩) (by rw [← PyData.shownKv_eq]; exact w2))
/-- repr(a thing) -/
def rReprZ (K : PySem.W.Frag) : List V → Hp → VK → Prop := fun vs H Q => match vs with
  | [x] => ∃ d, Th K H x d ∧ d.showable = true ∧ d.shown.length ≤ sizeLine ∧ d.depth ≤ 60 ∧ Q (.str d.shown) H
  | _ => False
theorem call_reprZ (hu : X.A.units + 64 < cLine) (hg : X.A.guards = some []) : CallR X (.builtin "repr") (rReprZ X.K) := by
  intro pins s σ H xs us Q I r h
  unfold rReprZ at h
  split at h
  · obtain ⟨d, h1, h2, h3, h4, h5⟩ := h
    obtain ⟨u, rfl, rx⟩ := vals1 r
    refine repr_top I h1 rx h2 h3 hg (by omega) fun h' t tk k => ?_
    exact ⟨.str d.shown, H, I.kept k, ⟨t, rfl⟩, h5⟩
  · exact h.elim
end
end Z

set_option maxRecDepth 100000
set_option maxHeartbeats 2000000
namespace Z
open PySem PySem.Spec PyProof.Rows L2
/-! ### defs that are called while no repr is under way -/
structure FnG (P : Program) (w : World) (K : PySem.W.Frag) (mg : Str → Option Value) (base : Heap) (CX : CXT) (k : Nat) (f : Addr) (fd : FuncData) (ps : List Str) (sp : Sp) : Prop where
  len : ∀ vs H Q E, sp vs H Q E → vs.length = ps.length
  run : ∀ (A : Around) (out : List Env) (s : Shared) (H : Hp) (args : Args) (us : List Value) (vs : List V) (Q : VK) (E : XK), Room k A → A.guards = some [] → Env0 P w K mg base A out s H →
    BindsTo s fd args (ps.zip us) → Vals vs us → sp vs H Q E → codeAny (model P w) A (.call (.ref f) args) (CR CX out P w H s Q E) s
/-- such a def by its body -/
theorem FnG.of {CX : CXT} {P : Program} {w : World} {K : PySem.W.Frag} {mg : Str → Option Value} {base : Heap} {k : Nat} {f : Addr} {fd : FuncData} {name qual : Str} {params : Arguments} {body : List Stmt} {scope : Scope} {dvs : List V} {kws : List (Str × V)}
    {N ps : List Str} {sp : Sp} (F : FunD K name qual params body scope dvs kws f fd) (S : FnScope N ps scope) (len : ∀ vs H Q E, sp vs H Q E → vs.length = ps.length)
    (hb : ∀ (cdv : Value) (A : Around) (out : List Env) (s : Shared) (H : Hp) (vs : List V) (Q : VK) (E : XK), Room k (A.deeper (envOfC qual scope s.heap.objs.size f cdv)) → A.guards = some [] → sp vs H Q E →
      ∃ t, PSs (cxOf CX P w K mg base N qual scope f cdv A out s H E) body t ∧ t { nx := fun _ H' => Q .non H', rt := Q } (start N vs) H) : FnG P w K mg base CX (k + 1) f fd ps sp := by
  obtain ⟨oc, od, dV, kV, doc, pm, an, cdv, ct, osl, rfl, lk, hcd, _, _⟩ := F.ex
  constructor
  · exact len
  · intro A out s H args us vs Q E room gd e0 bi rv w1
    have hlen := len vs H Q E w1
    have kin : K.In s.heap := e0.mod.kin.keeps fun b o e => (e0.bs b o e).1
    have free : s.heap.NoLimit := e0.mod.nolimit.keeps fun b o e => (e0.bs b o e).1
    refine codeAny_call_function room.depth (kin _ _ lk) rfl S.co S.gen rfl (PySem.W.codeRec_of kin hcd) (bi _ _ _ _ ?_)
    refine wpAny_newFunctionEnv_cells S.kind ?_ ?_
    · rintro ⟨n, v⟩ hy
      have hn : n ∈ ps := (List.of_mem_zip hy).1
      rcases S.par n hn with z | z
      · exact Or.inl z
      · exact Or.inr ⟨z, PySem.W.cellsFrom_some _ _ _ (Or.inl z)⟩
    · intro env he s1 x
      subst he
      refine ⟨free.keeps x.toInCall.keep, codeAny_func ?_⟩
      obtain ⟨t, d, w2⟩ := hb cdv A out s H vs Q E (room.deeper _) gd w1
      refine wpAny_mono (d.run [] s1 (start N vs) H _ (inv_start S room.hd e0 hlen rv x) w2) ?_ (fun _ _ z => z)
      intro fl s' z
      cases fl with
      | ret u =>
        obtain ⟨v, σ', H', J, r, q⟩ := z
        exact ⟨v, H', J.os, J.bare, J.base, J.hok, r, q⟩
      | next =>
        obtain ⟨σ', H', J, q⟩ := z
        exact ⟨V.non, H', J.os, J.bare, J.base, J.hok, (show RelV V.non Value.none from rfl), q⟩
      | brk =>
        obtain ⟨_, _, _, q⟩ := z
        exact q.elim
      | cont =>
        obtain ⟨_, _, _, q⟩ := z
        exact q.elim
/-- by its name -/
structure Cg (P : Program) (w : World) (K : PySem.W.Frag) (mg : Str → Option Value) (base : Heap) (CX : CXT) (k : Nat) (x : Str) (sp : Sp) : Prop where
  ex : ∃ (f : Addr) (fd : FuncData) (ps : List Str), FnG P w K mg base CX k f fd ps sp ∧ mg x = some (.ref f) ∧ PySem.W.keepIn K (.ref f) = true ∧ Binds K fd ps []
section
variable {X : Cx} {k j : Nat} {x : Str} {sp : Sp} {CX : CXT} {E : XK} {p pos : Pos} {e : Expr} {es : List Expr} {t : TA}
theorem pe_cg (c : Cg X.prog X.w X.K X.mg X.base CX k x sp) (hr : Room j X.A) (gd : X.A.guards = some []) (hk : k ≤ j) (hg : Gl X x) (hx : Passes CX X E) (ha : PA X (e :: es) t)
    (hdb : (x == ("__debug__" : Str)) = false := by decide) (he : starEach (e :: es) X.env = (false, eval e X.env) :: starEach es X.env := by rfl) (hpl : (backTo pos (starEach es X.env)).any (·.1) = false := by rfl) :
    PE X (.Call (.Name x p) (e :: es) [] pos) (tCall sp [] E t) := by
  obtain ⟨f, fd, ps, F, hm, kp, b⟩ := c.ex
  constructor
  intro pins s σ H Q I w1
  refine wpAny_Call_Name_kw (ld_glob I hg hm ?_ hdb)
  refine PySem.W.callWith_K (h₀ := X.base) I.ok.mod.kin kp (thn (ha.run pos pins s σ H _ I w1) ?_) he hpl
  rintro us s1 ⟨vs, H1, I1, r, w2⟩
  refine ⟨I1.kIn, ?_⟩
  rw [List.append_nil] at w2
  have hl : (us ++ []).length = ps.length := by
    rw [List.append_nil, ← r.length]
    exact F.len _ _ _ _ w2
  have bi := b s1 us I1.kIn hl
  rw [List.append_nil] at bi
  refine wpAny_call (codeAny_mono (F.run X.A X.stack s1 H1 ⟨us, []⟩ us vs Q E (hr.mono hk) gd I1.env0 bi r w2) ?_)
  intro r s' q
  cases r with
  | error z => exact hx pins σ H1 s1 z s' I1 q
  | ok fl =>
    cases fl with
    | ret u => exact I1.after q
    | next => exact q.elim
    | brk => exact q.elim
    | cont => exact q.elim
end
/-! ### the end of a law -/
section
variable {P : Program} {w : World} {K : PySem.W.Frag} {mg mb : Str → Option Value} {CX : CXT} {k : Nat} {fa a : Addr} {fd : FuncData} {x : Str} {sp : Sp} {s : Shared} {vs : List Value} {ns : List Int}
/-- what the law's call wants behind it -/
abbrev Ended (s : Shared) (r : Result) (s' : Shared) : Prop := r = .ok (.ret (.bool true)) ∧ OldK s.heap s'.heap ∧ s'.os = s.os ∧ AllBare s'.gens
theorem law_from (H : Hp) (hO : Only H) (hok : HOk P w H s.heap) (own : ∀ b, H b ≠ none → b = a) (kin : K.In (hidT s.heap H)) (hM : Mod K mg (hidT s.heap H)) (hg : s.gens = #[]) (hr : Room k callerA)
    (F : FnG P w K mg (hidT s.heap H) CX k fa fd [x] sp) (bi : BindsTo s fd ⟨[Value.ref a], []⟩ [(x, Value.ref a)]) (w1 : sp [.ref a] H (fun v _ => v = .bl true) fun _ _ _ => False)
    (hCX : ∀ e s', CX [] H s (fun _ _ _ => False) e s' → False) : codeAny (model P w) callerA (.call (.ref fa) ⟨[.ref a], []⟩) (Ended s) s := by
  have e0 : Env0 P w K mg (hidT s.heap H) callerA [] s H :=
    { frames := rfl, mod := hM, bs := fun b o e => of_hidT e, bsz := Nat.le_of_eq (hidT_size _ _), funs := trivial, frf := fun b z => (nomatch (show b ∈ ([] : List Addr) from z)), hok := hok, bare := .of_eq hg }
  refine codeAny_mono (F.run callerA [] s H _ [.ref a] [.ref a] _ _ hr rfl e0 bi (.cons rfl .nil) w1) ?_
  intro r s' q
  cases r with
  | error e => exact (hCX e s' q).elim
  | ok fl =>
    cases fl with
    | next => exact q.elim
    | brk => exact q.elim
    | cont => exact q.elim
    | ret u =>
      obtain ⟨v, H', h1, h2, h3, h4, h5, h6⟩ := q
      have h6' : v = .bl true := h6
      subst h6'
      cases (show u = Value.bool true from h5)
      refine ⟨rfl, OldK.of_keep ?_, h1, h2⟩
      intro b o e
      cases z : H b with
      | none => exact h3.keep b o e z (fun m => nomatch (show b ∈ ([] : List Addr) from m)) (fun m => nomatch m)
      | some u =>
        rcases hO b with y | ⟨ob, xs, y⟩
        · rw [z] at y
          cases y
        · have l1 := (hok b _ y).1
          have l2 := (h4 b _ (h3.frzs b ob _ y)).1
          rw [e] at l1
          cases l1
          exact l2
theorem law_end (KX : K.In s.heap) (hns : s.heap.Ns mainGlobals mg) (hb : s.heap.Ns builtinsNs mb) (hbb : ∀ x : Str, x ≠ "__name__" → mb x = bootBuiltins x) (hlim : s.heap.NoLimit) (hg : s.gens = #[])
    (ha : s.heap.get? a = some { cls := .type "list", data := .seq vs.toArray }) (hi : IntsAre vs ns) (hl : ns.length ≤ sizeLine) (hr : Room k callerA)
    (F : ∀ base : Heap, K.In base → base.Ns mainGlobals mg → FnG P w K mg base CX k fa fd [x] sp) (bi : ∀ (s : Shared) (u : Value), BindsTo s fd ⟨[u], []⟩ [(x, u)])
    (w1 : ∀ H : Hp, Only H → SqL K H a (ns.map V.int) → sp [.ref a] H (fun v _ => v = .bl true) fun _ _ _ => False)
    (hCX : ∀ H e s', CX [] H s (fun _ _ _ => False) e s' → False) : codeAny (model P w) callerA (.call (.ref fa) ⟨[.ref a], []⟩) (Ended s) s := by
  have rv := vals_ints hi
  have lv := hi.length
  have core : ∀ H : Hp, Only H → SqL K H a (ns.map V.int) → HOk P w H s.heap → (∀ b, H b ≠ none → b = a) → (H a ≠ none → K.lookup a = none) → codeAny (model P w) callerA (.call (.ref fa) ⟨[.ref a], []⟩) (Ended s) s := by
    intro H hO hS hok own away
    have up : ∀ {b : Addr} {o : Obj}, s.heap.get? b = some o → H b = none → (hidT s.heap H).get? b = some o := fun e n => hidT_get e n
    have notA : ∀ {b : Addr}, H b ≠ none → ∀ {o : Obj}, s.heap.get? b = some o → o.data = .seq vs.toArray := by
      intro b n o e
      have z := own b n
      subst z
      rw [ha] at e
      cases e
      rfl
    have nsUp : ∀ {b : Addr} {m : Str → Option Value}, s.heap.Ns b m → (hidT s.heap H).Ns b m := by
      rintro b m ⟨o, es, ep, e, d, r⟩
      refine ⟨o, es, ep, up e ?_, d, r⟩
      cases q : H b with
      | none => rfl
      | some u =>
        have z := notA (b := b) (by rw [q]; exact Option.some_ne_none u) e
        rw [d] at z
        cases z
    have kUp : K.In (hidT s.heap H) := by
      intro b o e
      refine up (KX b o e) ?_
      cases q : H b with
      | none => rfl
      | some u =>
        have z := own b (by rw [q]; exact Option.some_ne_none u)
        subst z
        rw [away (by rw [q]; exact Option.some_ne_none u)] at e
        cases e
    obtain ⟨mc, l1, l2⟩ := hlim
    exact law_from H hO hok own kUp ⟨kUp, nsUp hns, ⟨mb, nsUp hb, hbb⟩, mc, nsUp l1, l2⟩ hg hr (F _ kUp (nsUp hns)) (bi s (.ref a)) (w1 H hO hS) (hCX H)
  cases hk : K.lookup a with
  | some o =>
    have e := KX a o hk
    rw [ha] at e
    cases e
    refine core (fun _ => none) (fun _ => Or.inl rfl) ?_ ?_ (fun b z => absurd rfl z) (fun z => absurd rfl z)
    · exact Or.inr ⟨_, vs.toArray, _, hk, rfl, rfl, rfl, (by rw [List.size_toArray, lv]; exact hl), (by simpa using rv)⟩
    · intro b u z
      cases (show (none : Option HO) = some u from z)
  | none =>
    let o : Obj := { cls := .type "list", data := .seq vs.toArray }
    let H : Hp := fun b => if b = a then some (.frz o (.lst (ns.map V.int))) else none
    have at_a : H a = some (.frz o (.lst (ns.map V.int))) := if_pos rfl
    have off : ∀ b, b ≠ a → H b = none := fun b n => if_neg n
    refine core H ?_ (Or.inl (Or.inr ⟨o, at_a⟩)) ?_ ?_ (fun _ => hk)
    · intro b
      by_cases z : b = a
      · exact Or.inr ⟨o, ns.map V.int, by rw [z]; exact at_a⟩
      · exact Or.inl (off b z)
    · intro b u z
      by_cases y : b = a
      · rw [y, at_a] at z
        cases z
        rw [y]
        exact ⟨ha, by rw [List.length_map]; exact hl, vs, _, rv, ha⟩
      · rw [off b y] at z
        cases z
    · intro b z
      by_cases y : b = a
      · exact y
      · exact absurd (off b y) z
end
/-- the walk of a law's row, from its def's promise -/
theorem law_walk {l : PySem.W.OpenLaw} {n k : Nat} {q : Program} {loose : List Str} {XP : (Str → Option Value) → Heap → Prop} {YP : World → Heap → Prop} {d : DefRec} {CX : CXT} {x : Str}
    (hn : l.most = some n) (hn2 : n ≤ sizeLine) (hdf : d.params.defaults = []) (hr : Room k callerA)
    (F : ∀ (w : World) (mg : Str → Option Value) (fa : Addr) (h : Heap), YP w h → h.Ns mainGlobals mg → mg d.name = some (.ref fa) →
      ∃ (K : PySem.W.Frag) (fd : FuncData) (sp : Sp), K.In h ∧ (∀ (s : Shared) (u : Value), BindsTo s fd ⟨[u], []⟩ [(x, u)]) ∧
        (∀ (H : Hp) (a : Addr) (ns : List Int), ns.length ≤ n → SqL K H a (ns.map V.int) → sp [.ref a] H (fun v _ => v = .bl true) fun _ _ _ => False) ∧
        ∀ base : Heap, K.In base → base.Ns mainGlobals mg → FnG l.prog w K mg base CX k fa fd [x] sp)
    (hCX : ∀ (H : Hp) (s : Shared) (e : Value) (s' : Shared), CX [] H s (fun _ _ _ => False) e s' → False) : PySem.W.WalkO q loose XP YP l.row.toRowW d [] (fun f vs => PySem.call f vs) := by
  refine Att.attach_call hn hdf ?_
  intro w s0 s mg mb fa o pm cd doc a vs ns G Y ho hd hcd hmg hobj hints hlen hg
  obtain ⟨K, fd, sp, KX, bi, w1, hF⟩ := F w mg fa _ Y G.T.g hmg
  exact law_end KX G.T.g G.T.b G.T.builtins G.T.nolimit hg hobj hints (Nat.le_trans hlen hn2) hr hF bi (fun H _ hS => w1 H a ns hlen hS) fun H e s' => hCX H s e s'
end Z

set_option maxRecDepth 100000
set_option maxHeartbeats 2000000
namespace Z
open PySem PySem.Spec PyProof.Rows L2
/-! ### what is walked, as a list of its items -/
def signsV (z : Str) : List V := z.cps.toList.map fun c => V.str ⟨#[c]⟩
def rangeV (lo : Int) (n : Nat) : List V := (List.range n).map fun i : Nat => V.int (lo + (i : Int))
theorem rangeV_len (lo : Int) (n : Nat) : (rangeV lo n).length = n := by simp [rangeV]
theorem signsV_len (z : Str) : (signsV z).length = z.length := by simp [signsV, Str.length]
theorem rangeV_get {lo : Int} {n i : Nat} {x : V} (h : (rangeV lo n)[i]? = some x) : i < n ∧ x = .int (lo + (i : Int)) := by
  obtain ⟨h1, h2⟩ := List.getElem?_eq_some_iff.mp h
  rw [rangeV_len] at h1
  refine ⟨h1, ?_⟩
  rw [← h2]
  simp [rangeV]
theorem walk_strV {z : Str} : Walk (Its z) (signsV z).length (fun _ => True) (YAt (signsV z)) := by
  rw [signsV_len]
  refine (walk_str (z := z)).mono (fun _ h => h) ?_
  rintro i H x H' _ _ ⟨e, c, hc, rfl⟩
  refine ⟨e, ?_⟩
  unfold signsV
  rw [List.getElem?_map, Array.getElem?_toList, hc]
  rfl
theorem walk_rangeV {lo : Int} {n : Nat} : Walk (Itr lo n) (rangeV lo n).length (fun _ => True) (YAt (rangeV lo n)) := by
  rw [rangeV_len]
  refine (walk_range (lo := lo) (n := n)).mono (fun _ h => h) ?_
  rintro i H x H' hi _ ⟨e, rfl⟩
  refine ⟨e, ?_⟩
  unfold rangeV
  rw [List.getElem?_map, List.getElem?_range hi]
  rfl
theorem wipe1 (σ : L2.St) (j : Nat) : wipe σ [j] = σ.set j none := rfl
theorem wipe_set (σ : L2.St) (j : Nat) (x : Option V) : wipe ((wipe σ [j]).set j x) [j] = wipe σ [j] := by
  rw [wipe1, wipe1, List.set_set, List.set_set]
/-- a comprehension's end: what tLc asks behind the walked thing -/
abbrev LcAsk (J : It) (g : TG) (tt : TT) (te : TE) (vs : List Nat) (σ : L2.St) (H1 : Hp) (Q : VK) : Prop :=
  ∀ D, H1 D = none → ∃ W : Nat → Nat → Hp → Prop, (∃ m, W 0 m (upd H1 D (.lst []))) ∧ ∀ i m H, W i m H →
    (J.stop i H ∧ Q (.ref D) H) ∨ (J.go i H ∧ ∃ Nx : Hp → Prop, (∀ H', Nx H' → ∃ m', m' < m ∧ W (i + 1) m' H') ∧ ∀ x H', J.yld i H x H' →
      g x (wipe σ vs) H' fun σ2 H2 => wipe σ2 vs = wipe σ vs ∧ tt σ2 H2 fun b H3 => if b = true then te σ2 H3 fun y H4 => ∃ acc, H4 D = some (.lst acc) ∧ acc.length < sizeLine ∧ Nx (upd H4 D (.lst (acc ++ [y]))) else Nx H3)
section
variable {J : It} {xs : List V} {G : Hp → Prop} {j : Nat} {σ : L2.St} {tt : TT} {te : TE} {H : Hp} {Q : VK}
theorem small5 {n : Nat} (h : n ≤ 100000) : n < sizeLine := Nat.lt_of_le_of_lt h (by decide)
/-- a comprehension whose tests and elements only read -/
theorem lcP {vs : List Nat} (w : Walk J xs.length G (YAt xs)) (f : V → Bool) (g : V → V) (hG : ∀ H', Same H H' → G H') (hz : xs.length ≤ 100000)
    (ht : ∀ x, x ∈ xs → ∀ H', Same H H' → ∀ Q' : Bool → Hp → Prop, (∀ H'', Same H' H'' → Q' (f x) H'') → tt ((σ.set j none).set j (some x)) H' Q')
    (he : ∀ x, x ∈ xs → f x = true → ∀ H', Same H H' → ∀ Q' : VK, (∀ H'', Same H' H'' → Q' (g x) H'') → te ((σ.set j none).set j (some x)) H' Q')
    (k : ∀ D H', H D = none → Same H H' → H' D = some (.lst ((xs.filter f).map g)) → Q (.ref D) H') (hv : vs = [j] := by rfl) : LcAsk J (gName j) tt te vs σ H Q := by
  subst hv
  intro D hD
  refine lc_it w (fun i H' => Same H H' ∧ H' D = some (.lst (((xs.take i).filter f).map g))) ⟨same_new hD, upd_same⟩ (fun i H' _ p => hG H' p.1) ?_ ?_
  · rintro i x H1 H2 hi ⟨s1, d1⟩ ⟨rfl, hx⟩
    have hm : x ∈ xs := List.mem_of_getElem? hx
    have tk : xs.take (i + 1) = xs.take i ++ [x] := by rw [List.take_add_one, hx]; rfl
    refine ⟨wipe_set σ j _, ?_⟩
    refine ht x hm H2 s1 _ fun H3 s3 => ?_
    cases hf : f x with
    | false =>
      rw [if_neg Bool.false_ne_true]
      refine ⟨s1.trans s3, ?_⟩
      rw [s3 _ _ d1, tk, List.filter_append, List.filter_cons_of_neg (by rw [hf]; exact Bool.false_ne_true), List.filter_nil, List.append_nil]
    | true =>
      rw [if_pos rfl]
      refine he x hm hf H3 (s1.trans s3) _ fun H4 s4 => ?_
      refine ⟨_, s4 _ _ (s3 _ _ d1), ?_, same_mut ((s1.trans s3).trans s4) hD, ?_⟩
      · rw [List.length_map]
        refine small5 (Nat.le_trans (List.length_filter_le _ _) ?_)
        rw [List.length_take]
        omega
      · rw [upd_same, tk, List.filter_append, List.filter_cons_of_pos hf, List.filter_nil, List.map_append]
        rfl
  · rintro H' ⟨s1, d1⟩
    rw [List.take_length] at d1
    exact k D H' hD s1 d1
/-- .. without a test -/
theorem lcM {vs : List Nat} (w : Walk J xs.length G (YAt xs)) (g : V → V) (hG : ∀ H', Same H H' → G H') (hz : xs.length ≤ 100000)
    (he : ∀ x, x ∈ xs → ∀ H', Same H H' → ∀ Q' : VK, (∀ H'', Same H' H'' → Q' (g x) H'') → te ((σ.set j none).set j (some x)) H' Q')
    (k : ∀ D H', H D = none → Same H H' → H' D = some (.lst (xs.map g)) → Q (.ref D) H') (hv : vs = [j] := by rfl) : LcAsk J (gName j) tYes te vs σ H Q :=
  lcP (hv := hv) w (fun _ => true) g hG hz (fun x _ H' _ Q' q => q H' (Same.refl H')) (fun x m _ => he x m) fun D H' h1 h2 h3 => k D H' h1 h2 (by rw [h3, List.filter_eq_self.mpr (fun _ _ => rfl)])
end
/-! ### where a bag is drawn from -/
/-- b is a bag and hidden; what is hidden stands there -/
structure Wd (K : PySem.W.Frag) (B : Addr → Bool) (ω : Bg) (H : Hp) : Prop where
  bag : Bag K H ω
  hb : B ω.b = true
  hB : ∀ a, B a = true → H a ≠ none
section
variable {K : PySem.W.Frag} {B : Addr → Bool} {ω : Bg} {H H' : Hp}
theorem Wd.off (h : Wd K B ω H) {p : Addr} (n : H p = none) : B p = false := by
  cases e : B p with
  | false => rfl
  | true => exact absurd n (h.hB p e)
theorem some_go (g : Bag K H' ω) (x : Go ω.b H H') {a : Addr} (n : H a ≠ none) : H' a ≠ none := by
  by_cases e : a = ω.b
  · obtain ⟨o, z⟩ := g.some
    rw [e, z]
    exact Option.some_ne_none o
  · cases q : H a with
    | none => exact absurd q n
    | some o =>
      rw [x a o e q]
      exact Option.some_ne_none o
theorem free_go (g : Bag K H' ω) (x : Go ω.b H H') {a : Addr} (n : H' a = none) : H a = none := by
  cases q : H a with
  | none => rfl
  | some o => exact absurd n (some_go g x (by rw [q]; exact Option.some_ne_none o))
theorem Wd.go (h : Wd K B ω H) (g : Bag K H' ω) (x : Go ω.b H H') : Wd K B ω H' := ⟨g, h.hb, fun a z => some_go g x (h.hB a z)⟩
theorem Wd.same (h : Wd K B ω H) (x : Same H H') : Wd K B ω H' := h.go (h.bag.same x) (Go.of x)
/-- one address more is hidden -/
def hide (p : Addr) (B : Addr → Bool) : Addr → Bool := fun a => decide (a = p) || B a
theorem Wd.more (h : Wd K B ω H) {p : Addr} {o : HO} (e : H p = some o) : Wd K (hide p B) ω H := by
  refine ⟨h.bag, ?_, fun a z => ?_⟩
  · unfold hide
    rw [h.hb, Bool.or_true]
  · unfold hide at z
    rcases Bool.or_eq_true_iff.mp z with z | z
    · rw [of_decide_eq_true z, e]
      exact Option.some_ne_none o
    · exact h.hB a z
theorem hide_sub (p : Addr) (B : Addr → Bool) (H : Hp) : Same (hd (hide p B) H) (hd B H) := fun a o h => by
  obtain ⟨h1, h2⟩ := hd_some h
  exact hd_of ((Bool.or_eq_false_iff.mp h1).2) h2
theorem hide_same (p : Addr) (B : Addr → Bool) (H : Hp) {o : HO} : Same (hd (hide p B) H) (hd (hide p B) (upd H p o)) := fun a u h => by
  obtain ⟨h1, h2⟩ := hd_some h
  have n : a ≠ p := of_decide_eq_false ((Bool.or_eq_false_iff.mp h1).1)
  exact hd_of h1 (by rw [upd_ne n]; exact h2)
theorem hide_new {p : Addr} {B : Addr → Bool} {H : Hp} {o : HO} (n : H p = none) : Same (hd B H) (hd (hide p B) (upd H p o)) := fun a u h => by
  obtain ⟨h1, h2⟩ := hd_some h
  have e : a ≠ p := ne_of_none h2 n
  refine hd_of ?_ (by rw [upd_ne e]; exact h2)
  unfold hide
  rw [h1, decide_eq_false e]
  rfl
end
section
variable {K : PySem.W.Frag} {ω : Bg} {J : It} {xs : List V} {G : Hp → Prop} {j : Nat} {σ : L2.St} {tt : TT} {te : TE} {H : Hp} {Q : VK}
/-- a comprehension within which is drawn: Iv by the turn, what is made so far, and the heap but for what is hidden -/
theorem lcD {vs : List Nat} (w : Walk J xs.length G (YAt xs)) (B : Addr → Bool) (wd : Wd K B ω H) (Iv : Nat → List V → Hp → Prop) (mono : ∀ i acc G1 G2, Same G1 G2 → Iv i acc G1 → Iv i acc G2)
    (hG : ∀ H', Same (hd B H) (hd B H') → G H') (hz : xs.length ≤ 100000) (h0 : Iv 0 [] (hd B H))
    (hs : ∀ i x acc B' H', xs[i]? = some x → (∀ a, B a = true → B' a = true) → Same (hd B H) (hd B' H') → Wd K B' ω H' → Iv i acc (hd B' H') →
      tt ((σ.set j none).set j (some x)) H' fun c H3 => if c = true then te ((σ.set j none).set j (some x)) H3 fun y H4 => Bag K H4 ω ∧ Go ω.b H' H4 ∧ Iv (i + 1) (acc ++ [y]) (hd B' H4) else Bag K H3 ω ∧ Go ω.b H' H3 ∧ Iv (i + 1) acc (hd B' H3))
    (mt : ∀ σ H (Q1 Q2 : Bool → Hp → Prop), (∀ c H', Q1 c H' → Q2 c H') → tt σ H Q1 → tt σ H Q2) (me : ∀ σ H (Q1 Q2 : VK), (∀ v H', Q1 v H' → Q2 v H') → te σ H Q1 → te σ H Q2)
    (k : ∀ D acc H', H D = none → acc.length ≤ xs.length → Wd K B ω H' → Go ω.b H H' → Iv xs.length acc (hd (hide D B) H') → H' D = some (.lst acc) → Q (.ref D) H') (hv : vs = [j] := by rfl) : LcAsk J (gName j) tt te vs σ H Q := by
  subst hv
  intro D hD
  have nb : D ≠ ω.b := fun e => by
    obtain ⟨o, z⟩ := wd.bag.some
    rw [e, z] at hD
    cases hD
  have bD : B D = false := wd.off hD
  refine lc_it w (fun i H' => ∃ acc, acc.length ≤ i ∧ Wd K B ω H' ∧ Go ω.b H H' ∧ H' D = some (.lst acc) ∧ Iv i acc (hd (hide D B) H')) ⟨[], Nat.le_refl _, wd.same (same_new hD), Go.of (same_new hD), upd_same, mono _ _ _ _ (hide_new hD) h0⟩ ?_ ?_ ?_
  · rintro i H' _ ⟨acc, _, wd', g', _, _⟩
    exact hG H' (g'.hd wd.hb)
  · rintro i x H1 H2 hi ⟨acc, hl, wd', g', hd', iv⟩ ⟨rfl, hx⟩
    refine ⟨wipe_set σ j _, ?_⟩
    have sm : Same (hd B H) (hd (hide D B) H2) := fun a o z => by
      obtain ⟨h1, h2⟩ := hd_some z
      have n : a ≠ D := ne_of_none h2 hD
      refine hd_of ?_ (g' a o (fun e => by rw [e, wd.hb] at h1; cases h1) h2)
      unfold hide
      rw [h1, decide_eq_false n]
      rfl
    refine mt _ _ _ _ (fun c H3 z => ?_) (hs i x acc (hide D B) H2 hx (fun a z => by unfold hide; rw [z, Bool.or_true]) sm (wd'.more hd') iv)
    cases c with
    | false =>
      rw [if_neg Bool.false_ne_true] at z ⊢
      obtain ⟨z1, z2, z3⟩ := z
      exact ⟨acc, by omega, wd'.go z1 z2, g'.trans z2, z2 _ _ nb hd', z3⟩
    | true =>
      rw [if_pos rfl] at z ⊢
      refine me _ _ _ _ (fun y H4 z => ?_) z
      obtain ⟨z1, z2, z3⟩ := z
      have d4 : H4 D = some (.lst acc) := z2 _ _ nb hd'
      refine ⟨acc, d4, small5 (by omega), acc ++ [y], by rw [List.length_append]; exact Nat.add_le_add_right hl 1, ?_, ?_, upd_same, mono _ _ _ _ (hide_same D B H4) z3⟩
      · have w4 : Wd K B ω H4 := wd'.go z1 z2
        refine ⟨?_, w4.hb, fun a z => ?_⟩
        · obtain ⟨x0, x1, x2, g⟩ := z1
          obtain ⟨y0, y1, y2, g0⟩ := wd.bag
          refine ⟨x0, x1, x2, by rw [upd_ne (Ne.symm nb)]; exact g.at_, ?_, g.ne, g.h0, g.h1, g.h2, g.hc⟩
          rcases g0.cells with (q | ⟨u, q⟩) | q
          · exact seq_ne g.cells (ne_of_none q hD)
          · exact seq_ne g.cells (ne_of_none q hD)
          · exact Or.inr q
        · by_cases e : a = D
          · rw [e, upd_same]
            exact Option.some_ne_none _
          · rw [upd_ne e]
            exact w4.hB a z
      · exact go_new (g'.trans z2) hD
  · rintro H' ⟨acc, hl, wd', g', hd', iv⟩
    exact k D acc H' hD hl wd' g' iv hd'
end
/-! ### the same from the comprehension as a whole -/
section
variable {wi : TI} {J : It} {xs : List V} {G : Hp → Prop} {j : Nat} {vs : List Nat} {σ : L2.St} {tt : TT} {te : TE} {H : Hp} {Q : VK}
theorem tlcP (J : It) (xs : List V) (G : Hp → Prop) (f : V → Bool) (g : V → V) (hw : ∀ R : It → Hp → Prop, (∀ H1, Same H H1 → G H1 → R J H1) → wi σ H R) (w : Walk J xs.length G (YAt xs)) (hG : ∀ H1 H2, Same H1 H2 → G H1 → G H2) (hz : xs.length ≤ 100000)
    (ht : ∀ x, x ∈ xs → ∀ H', Same H H' → ∀ Q' : Bool → Hp → Prop, (∀ H'', Same H' H'' → Q' (f x) H'') → tt ((σ.set j none).set j (some x)) H' Q')
    (he : ∀ x, x ∈ xs → f x = true → ∀ H', Same H H' → ∀ Q' : VK, (∀ H'', Same H' H'' → Q' (g x) H'') → te ((σ.set j none).set j (some x)) H' Q')
    (k : ∀ D H', H D = none → Same H H' → H' D = some (.lst ((xs.filter f).map g)) → Q (.ref D) H') (hv : vs = [j] := by rfl) : tLc wi (gName j) tt te vs σ H Q := by
  refine hw _ fun H1 s1 g1 => ?_
  exact lcP (H := H1) (hv := hv) w f g (fun H' s' => hG H1 H' s' g1) hz (fun x m H' s' => ht x m H' (s1.trans s')) (fun x m e H' s' => he x m e H' (s1.trans s')) fun D H' h1 h2 h3 => k D H' (s1.free h1) (s1.trans h2) h3
theorem tlcM (J : It) (xs : List V) (G : Hp → Prop) (g : V → V) (hw : ∀ R : It → Hp → Prop, (∀ H1, Same H H1 → G H1 → R J H1) → wi σ H R) (w : Walk J xs.length G (YAt xs)) (hG : ∀ H1 H2, Same H1 H2 → G H1 → G H2) (hz : xs.length ≤ 100000)
    (he : ∀ x, x ∈ xs → ∀ H', Same H H' → ∀ Q' : VK, (∀ H'', Same H' H'' → Q' (g x) H'') → te ((σ.set j none).set j (some x)) H' Q')
    (k : ∀ D H', H D = none → Same H H' → H' D = some (.lst (xs.map g)) → Q (.ref D) H') (hv : vs = [j] := by rfl) : tLc wi (gName j) tYes te vs σ H Q := by
  refine hw _ fun H1 s1 g1 => ?_
  exact lcM (H := H1) (hv := hv) w g (fun H' s' => hG H1 H' s' g1) hz (fun x m H' s' => he x m H' (s1.trans s')) fun D H' h1 h2 h3 => k D H' (s1.free h1) (s1.trans h2) h3
/-- over a text -/
theorem comp_str {te0 : TE} {x : Str} (g : V → V) (h0 : ∀ R : VK, (∀ H1, Same H H1 → R (.str x) H1) → te0 σ H R) (hz : x.length ≤ 100000)
    (he : ∀ y, y ∈ signsV x → ∀ H', Same H H' → ∀ Q' : VK, (∀ H'', Same H' H'' → Q' (g y) H'') → te ((σ.set j none).set j (some y)) H' Q')
    (k : ∀ D H', H D = none → Same H H' → H' D = some (.lst ((signsV x).map g)) → Q (.ref D) H') (hv : vs = [j] := by rfl) : tLc (iStr te0) (gName j) tYes te vs σ H Q :=
  tlcM (hv := hv) (Its x) (signsV x) (fun _ => True) g (fun R r => h0 _ fun H1 s1 => ⟨x, rfl, r H1 s1 trivial⟩) walk_strV (fun _ _ _ _ => trivial) (by rw [signsV_len]; exact hz) he k
theorem comp_strP {te0 : TE} {x : Str} (f : V → Bool) (g : V → V) (h0 : ∀ R : VK, (∀ H1, Same H H1 → R (.str x) H1) → te0 σ H R) (hz : x.length ≤ 100000)
    (ht : ∀ y, y ∈ signsV x → ∀ H', Same H H' → ∀ Q' : Bool → Hp → Prop, (∀ H'', Same H' H'' → Q' (f y) H'') → tt ((σ.set j none).set j (some y)) H' Q')
    (he : ∀ y, y ∈ signsV x → f y = true → ∀ H', Same H H' → ∀ Q' : VK, (∀ H'', Same H' H'' → Q' (g y) H'') → te ((σ.set j none).set j (some y)) H' Q')
    (k : ∀ D H', H D = none → Same H H' → H' D = some (.lst (((signsV x).filter f).map g)) → Q (.ref D) H') (hv : vs = [j] := by rfl) : tLc (iStr te0) (gName j) tt te vs σ H Q :=
  tlcP (hv := hv) (Its x) (signsV x) (fun _ => True) f g (fun R r => h0 _ fun H1 s1 => ⟨x, rfl, r H1 s1 trivial⟩) walk_strV (fun _ _ _ _ => trivial) (by rw [signsV_len]; exact hz) ht he k
/-- over a list -/
theorem comp_list {K : PySem.W.Frag} {tl : TE} {a : Addr} {xs : List V} (g : V → V) (h0 : ∀ R : VK, (∀ H1, Same H H1 → SqL K H1 a xs → R (.ref a) H1) → tl σ H R) (hz : xs.length ≤ 100000)
    (he : ∀ y, y ∈ xs → ∀ H', Same H H' → ∀ Q' : VK, (∀ H'', Same H' H'' → Q' (g y) H'') → te ((σ.set j none).set j (some y)) H' Q')
    (k : ∀ D H', H D = none → Same H H' → H' D = some (.lst (xs.map g)) → Q (.ref D) H') (hv : vs = [j] := by rfl) : tLc (iList K tl) (gName j) tYes te vs σ H Q :=
  tlcM (hv := hv) (Itl K a) xs (fun H => SqL K H a xs) g (fun R r => h0 _ fun H1 s1 q => ⟨a, rfl, ⟨xs, q⟩, r H1 s1 q⟩) walk_list (fun _ _ s q => s.seq q) hz he k
theorem comp_listP {K : PySem.W.Frag} {tl : TE} {a : Addr} {xs : List V} (f : V → Bool) (g : V → V) (h0 : ∀ R : VK, (∀ H1, Same H H1 → SqL K H1 a xs → R (.ref a) H1) → tl σ H R) (hz : xs.length ≤ 100000)
    (ht : ∀ y, y ∈ xs → ∀ H', Same H H' → ∀ Q' : Bool → Hp → Prop, (∀ H'', Same H' H'' → Q' (f y) H'') → tt ((σ.set j none).set j (some y)) H' Q')
    (he : ∀ y, y ∈ xs → f y = true → ∀ H', Same H H' → ∀ Q' : VK, (∀ H'', Same H' H'' → Q' (g y) H'') → te ((σ.set j none).set j (some y)) H' Q')
    (k : ∀ D H', H D = none → Same H H' → H' D = some (.lst ((xs.filter f).map g)) → Q (.ref D) H') (hv : vs = [j] := by rfl) : tLc (iList K tl) (gName j) tt te vs σ H Q :=
  tlcP (hv := hv) (Itl K a) xs (fun H => SqL K H a xs) f g (fun R r => h0 _ fun H1 s1 q => ⟨a, rfl, ⟨xs, q⟩, r H1 s1 q⟩) walk_list (fun _ _ s q => s.seq q) hz ht he k
/-- over range(n), drawn from within or not -/
theorem tlcD {K : PySem.W.Frag} {ω : Bg} {ι : Type} (J : ι → It) (xs : ι → List V) (G : ι → Hp → Prop) (B : Addr → Bool) (wd : Wd K B ω H) (Iv : ι → Nat → List V → Hp → Prop) (Pi : ι → Prop)
    (hw : ∀ R : It → Hp → Prop, (∀ i H1, Pi i → Bag K H1 ω → Go ω.b H H1 → R (J i) H1) → wi σ H R) (w : ∀ i, Walk (J i) (xs i).length (G i) (YAt (xs i))) (mono : ∀ c i acc G1 G2, Same G1 G2 → Iv c i acc G1 → Iv c i acc G2)
    (hG : ∀ c H1 H', Pi c → Same (hd B H) (hd B H1) → Same (hd B H1) (hd B H') → G c H') (hz : ∀ c, Pi c → (xs c).length ≤ 100000) (h0 : ∀ c H1, Pi c → Same (hd B H) (hd B H1) → Iv c 0 [] (hd B H1))
    (hs : ∀ c i x acc B' H', Pi c → (xs c)[i]? = some x → (∀ a, B a = true → B' a = true) → Same (hd B H) (hd B' H') → Wd K B' ω H' → Iv c i acc (hd B' H') →
      tt ((σ.set j none).set j (some x)) H' fun b H3 => if b = true then te ((σ.set j none).set j (some x)) H3 fun y H4 => Bag K H4 ω ∧ Go ω.b H' H4 ∧ Iv c (i + 1) (acc ++ [y]) (hd B' H4) else Bag K H3 ω ∧ Go ω.b H' H3 ∧ Iv c (i + 1) acc (hd B' H3))
    (mt : ∀ σ H (Q1 Q2 : Bool → Hp → Prop), (∀ c H', Q1 c H' → Q2 c H') → tt σ H Q1 → tt σ H Q2) (me : ∀ σ H (Q1 Q2 : VK), (∀ v H', Q1 v H' → Q2 v H') → te σ H Q1 → te σ H Q2)
    (k : ∀ c D acc H', Pi c → H D = none → acc.length ≤ (xs c).length → Wd K B ω H' → Go ω.b H H' → Iv c (xs c).length acc (hd (hide D B) H') → H' D = some (.lst acc) → Q (.ref D) H') (hv : vs = [j] := by rfl) : tLc wi (gName j) tt te vs σ H Q := by
  refine hw _ fun c H1 pc g1 go1 => ?_
  have wd1 := wd.go g1 go1
  have sm := go1.hd wd.hb
  refine lcD (H := H1) (hv := hv) (w c) B wd1 (Iv c) (mono c) (fun H' s' => hG c H1 H' pc sm s') (hz c pc) (h0 c H1 pc sm) (fun i x acc B' H' hx hB s' w' iv => hs c i x acc B' H' pc hx hB (sm.trans s') w' iv) mt me ?_
  intro D acc H' h1 h2 h3 h4 h5 h6
  exact k c D acc H' pc (free_go g1 go1 h1) h2 h3 (go1.trans h4) h5 h6
end
/-! ### a comprehension whose answers are told as a list -/
section
variable {wi : TI} {J : It} {xs ys : List V} {G : Hp → Prop} {j : Nat} {vs : List Nat} {σ : L2.St} {te : TE} {H : Hp} {Q : VK}
theorem tlcL (J : It) (xs ys : List V) (G : Hp → Prop) (hl : ys.length = xs.length) (hw : ∀ R : It → Hp → Prop, (∀ H1, Same H H1 → G H1 → R J H1) → wi σ H R) (w : Walk J xs.length G (YAt xs)) (hG : ∀ H1 H2, Same H1 H2 → G H1 → G H2) (hz : xs.length ≤ 100000)
    (he : ∀ (i : Nat) (x y : V), xs[i]? = some x → ys[i]? = some y → ∀ H', Same H H' → ∀ Q' : VK, (∀ H'', Same H' H'' → Q' y H'') → te ((σ.set j none).set j (some x)) H' Q')
    (k : ∀ D H', H D = none → Same H H' → H' D = some (.lst ys) → Q (.ref D) H') (hv : vs = [j] := by rfl) : tLc wi (gName j) tYes te vs σ H Q := by
  subst hv
  refine hw _ fun H1 s1 g1 => ?_
  intro D hD
  refine lc_it w (fun i H' => Same H1 H' ∧ H' D = some (.lst (ys.take i))) ⟨same_new hD, upd_same⟩ (fun i H' _ p => hG H1 H' p.1 g1) ?_ ?_
  · rintro i x H2 H3 hi ⟨s2, d2⟩ ⟨rfl, hx⟩
    have hy : i < ys.length := by omega
    refine ⟨wipe_set σ j _, ?_⟩
    dsimp only [tYes]
    rw [if_pos rfl]
    refine he i x ys[i] hx (List.getElem?_eq_getElem hy) H3 (s1.trans s2) _ fun H4 s4 => ?_
    refine ⟨_, s4 _ _ d2, ?_, same_mut (s2.trans s4) hD, ?_⟩
    · rw [List.length_take]
      exact small5 (by omega)
    · rw [upd_same, List.take_add_one, List.getElem?_eq_getElem hy]
      rfl
  · rintro H' ⟨s2, d2⟩
    rw [← hl, List.take_length] at d2
    exact k D H' (s1.free hD) (s1.trans s2) d2
theorem comp_listL {K : PySem.W.Frag} {tl : TE} {a : Addr} (ys : List V) (h0 : ∀ R : VK, (∀ H1, Same H H1 → SqL K H1 a xs → R (.ref a) H1) → tl σ H R) (hl : ys.length = xs.length) (hz : xs.length ≤ 100000)
    (he : ∀ (i : Nat) (x y : V), xs[i]? = some x → ys[i]? = some y → ∀ H', Same H H' → ∀ Q' : VK, (∀ H'', Same H' H'' → Q' y H'') → te ((σ.set j none).set j (some x)) H' Q')
    (k : ∀ D H', H D = none → Same H H' → H' D = some (.lst ys) → Q (.ref D) H') (hv : vs = [j] := by rfl) : tLc (iList K tl) (gName j) tYes te vs σ H Q :=
  tlcL (hv := hv) (Itl K a) xs ys (fun H => SqL K H a xs) hl (fun R r => h0 _ fun H1 s1 q => ⟨a, rfl, ⟨xs, q⟩, r H1 s1 q⟩) walk_list (fun _ _ s q => s.seq q) hz he k
end
end Z

set_option maxRecDepth 100000
set_option maxHeartbeats 2000000
namespace Z
open PySem PySem.Spec PyProof.Rows L2
theorem paired_get {α β : Type} {F : α → β → Prop} : ∀ {l : List α} {m : List β}, l.length = m.length → (∀ (i : Nat) (a : α) (b : β), l[i]? = some a → m[i]? = some b → F a b) → Paired F l m
  | [], [], _, _ => .nil
  | [], _ :: _, e, _ => by simp at e
  | _ :: _, [], e, _ => by simp at e
  | a :: l, b :: m, e, h => .cons (h 0 a b rfl rfl) (paired_get (by simpa using e) fun i x y hx hy => h (i + 1) x y hx hy)
section
variable {X : Cx}
/-- list(a text), list(a list or a tuple) -/
def rListZ (K : PySem.W.Frag) : List V → Hp → VK → Prop := fun vs H Q => match vs with
  | [.str x] => x.length ≤ sizeLine ∧ ∀ l, H l = none → Q (.ref l) (upd H l (.lst (signsV x)))
  | [.ref p] => ∃ ys, (SqL K H p ys ∨ SqT K H p ys) ∧ ∀ l, H l = none → Q (.ref l) (upd H l (.lst ys))
  | _ => False
theorem call_listZ (hc : X.calm = true) : CallR X (.type "list") (rListZ X.K) := by
  intro pins s σ H xs us Q I r h
  unfold rListZ at h
  split at h
  · rename_i x
    obtain ⟨u, rfl, rx⟩ := vals1 r
    obtain ⟨t, rfl⟩ := rx
    obtain ⟨h1, h2⟩ := h
    refine call_list_str (I.ok.hd hc) x t (fun h' tk acc c keep obj its => ?_) h1
    have rv : Vals (signsV x) acc.toList := by
      have len : acc.toList.length = (signsV x).length := by
        rw [signsV_len, Array.length_toList, its.1]
        rfl
      refine paired_get len.symm ?_
      intro i a b ha hb
      obtain ⟨cc, tt, e1, e2⟩ := its.2 i b (by simpa using hb)
      have e3 : (signsV x)[i]? = some (.str ⟨#[cc]⟩) := by
        unfold signsV
        rw [List.getElem?_map, Array.getElem?_toList, e1]
        rfl
      rw [e3] at ha
      cases ha
      exact ⟨tt, e2⟩
    refine ⟨.ref s.heap.objs.size, _, I.laid keep (Nat.le_refl _) ?_, rfl, h2 _ (I.hok.fresh (Nat.le_refl _))⟩
    exact ⟨by rw [signsV_len]; exact h1, acc.toList, c, rv, by simpa using obj⟩
  · obtain ⟨ys, h1, h2⟩ := h
    exact call_list_of pins s σ H _ us Q I r ⟨_, ys, rfl, h1, h2⟩
  · exact h.elim
end
/-! ### things that are small enough to be shown -/
structure Nice (R n : Nat) (d : PyData) : Prop where
  sh : d.showable = true
  lv : d.leavesShort 600 = true
  wt : d.weight ≤ R
  dp : d.depth ≤ n
  ly : d.hasDict = false → d.canLay0 = true
theorem Nice.mono {R R' n n' : Nat} {d : PyData} (h : Nice R n d) (a : R ≤ R') (b : n ≤ n') : Nice R' n' d := ⟨h.sh, h.lv, Nat.le_trans h.wt a, Nat.le_trans h.dp b, h.ly⟩
theorem Nice.fits {R n : Nat} {d : PyData} (h : Nice R n d) (a : R ≤ 20000) : d.shown.length ≤ sizeLine := by
  have h1 := PyData.shown_le 600 (by decide) d h.lv
  have h2 := h.wt
  have h3 : sizeLine = 16777216 := sizeLine_eq
  have h4 : (600 + 2) * d.weight ≤ 602 * 20000 := Nat.mul_le_mul_left _ (Nat.le_trans h2 a)
  omega
theorem nice_all {R n : Nat} : ∀ {ds : List PyData}, (∀ d ∈ ds, Nice R n d) → PyData.showableAll ds = true ∧ PyData.leavesShortAll 600 ds = true ∧ PyData.weightAll ds ≤ ds.length * (R + 1) ∧ PyData.depthAll ds ≤ n ∧ (PyData.hasDictAll ds = false → PyData.canLayAll0 ds = true)
  | [], _ => ⟨by simp only [PyData.showableAll], by simp only [PyData.leavesShortAll], by simp only [PyData.weightAll]; omega, by simp only [PyData.depthAll]; omega, fun _ => by simp only [PyData.canLayAll0]⟩
  | d :: ds, h => by
    obtain ⟨h1, h2, h3, h4, h5⟩ := nice_all (ds := ds) fun e m => h e (List.mem_cons_of_mem _ m)
    obtain ⟨g1, g2, g3, g4, g5⟩ := h d List.mem_cons_self
    refine ⟨?_, ?_, ?_, ?_, fun z => ?_⟩
    · simp only [PyData.showableAll, g1, h1, Bool.and_self]
    · simp only [PyData.leavesShortAll, g2, h2, Bool.and_self]
    · simp only [PyData.weightAll, List.length_cons, Nat.add_mul]
      omega
    · simp only [PyData.depthAll]
      exact Nat.max_le.mpr ⟨g4, h4⟩
    · have z2 : d.hasDict = false ∧ PyData.hasDictAll ds = false := by simpa only [PyData.hasDictAll, Bool.or_eq_false_iff] using z
      simp only [PyData.canLayAll0, g5 z2.1, h5 z2.2, Bool.and_self]
theorem Nice.list {R R' n : Nat} {ds : List PyData} (h : ∀ d ∈ ds, Nice R n d) (e : ds.length * (R + 1) ≤ R') : Nice R' (n + 1) (.list ds) := by
  obtain ⟨h1, h2, h3, h4, h5⟩ := nice_all h
  exact ⟨by simpa only [PyData.showable] using h1, by simpa only [PyData.leavesShort] using h2, by simp only [PyData.weight]; omega, by simp only [PyData.depth]; omega, fun z => by simp only [PyData.canLay0]; exact h5 (by simpa only [PyData.hasDict] using z)⟩
theorem Nice.tuple {R R' n : Nat} {ds : List PyData} (h : ∀ d ∈ ds, Nice R n d) (e : ds.length * (R + 1) ≤ R') : Nice R' (n + 1) (.tuple ds) := by
  obtain ⟨h1, h2, h3, h4, h5⟩ := nice_all h
  exact ⟨by simpa only [PyData.showable] using h1, by simpa only [PyData.leavesShort] using h2, by simp only [PyData.weight]; omega, by simp only [PyData.depth]; omega, fun z => by simp only [PyData.canLay0]; exact h5 (by simpa only [PyData.hasDict] using z)⟩
/-- a text of signs that stand in some table below 16 ^ 8 -/
def okS (x : Str) : Bool := x.cps.toList.all fun c => decide (c < 0x110000)
theorem nice_str {x : Str} {R : Nat} (h : okS x = true) (e : x.length ≤ R) (n : Nat) : Nice R n (.str x) := by
  refine ⟨by simp only [PyData.showable], ?_, e, by simp only [PyData.depth]; omega, fun _ => ?_⟩
  rotate_left
  · simp only [PyData.canLay0]
    unfold PyData.strOk
    rw [← Array.all_toList]
    exact h
  simp only [PyData.leavesShort]
  refine List.all_eq_true.mpr fun c m => ?_
  have z := of_decide_eq_true (List.all_eq_true.mp h c m)
  exact decide_eq_true (Nat.lt_of_lt_of_le z (by decide))
theorem nice_none (R n : Nat) : Nice R n .none := ⟨by simp only [PyData.showable], by simp only [PyData.leavesShort], by simp only [PyData.weight]; omega, by simp only [PyData.depth]; omega, fun _ => by simp only [PyData.canLay0]⟩
theorem nice_bool (R n : Nat) (b : Bool) : Nice R n (.bool b) := ⟨by simp only [PyData.showable], by simp only [PyData.leavesShort], by simp only [PyData.weight]; omega, by simp only [PyData.depth]; omega, fun _ => by simp only [PyData.canLay0]⟩
/-! isinstance's answers -/
def isStr : PyData → Bool
  | .str _ => true
  | _ => false
def isList : PyData → Bool
  | .list _ => true
  | _ => false
def isBool : PyData → Bool
  | .bool _ => true
  | _ => false
def isInt : PyData → Bool
  | .int _ => true
  | .bool _ => true
  | _ => false
section
variable {K : PySem.W.Frag} {H : Hp} {Q : VK} {v : V} {d : PyData}
theorem isi_str (h : Th K H v d) (q : Q (.bl (isStr d)) H) : rIsiZ K [v, .ty "str"] H Q := ⟨d, _, h, by cases d <;> (dsimp only [tyOf, isStr, isList, isBool, isInt]; decide +kernel), q⟩
theorem isi_list (h : Th K H v d) (q : Q (.bl (isList d)) H) : rIsiZ K [v, .ty "list"] H Q := ⟨d, _, h, by cases d <;> (dsimp only [tyOf, isStr, isList, isBool, isInt]; decide +kernel), q⟩
theorem isi_bool (h : Th K H v d) (q : Q (.bl (isBool d)) H) : rIsiZ K [v, .ty "bool"] H Q := ⟨d, _, h, by cases d <;> (dsimp only [tyOf, isStr, isList, isBool, isInt]; decide +kernel), q⟩
theorem isi_int (h : Th K H v d) (q : Q (.bl (isInt d)) H) : rIsiZ K [v, .ty "int"] H Q := ⟨d, _, h, by cases d <;> (dsimp only [tyOf, isStr, isList, isBool, isInt]; decide +kernel), q⟩
theorem repr_nice {R n : Nat} (h : Th K H v d) (w : Nice R n d) (a : R ≤ 20000) (b : n ≤ 60) (q : Q (.str d.shown) H) : rReprZ K [v] H Q := ⟨d, h, w.sh, w.fits a, Nat.le_trans w.dp b, q⟩
theorem th_str (h : Th K H v d) (e : isStr d = true) : ∃ x, d = .str x ∧ v = .str x := by
  cases h with
  | str x => exact ⟨x, rfl, rfl⟩
  | _ => cases e
theorem th_list (h : Th K H v d) (e : isList d = true) : ∃ a xs ds, d = .list ds ∧ v = .ref a ∧ SqL K H a xs ∧ ThA K H xs ds := by
  cases h with
  | lst h a => exact ⟨_, _, _, rfl, rfl, h, a⟩
  | _ => cases e
end
/-! ### the rules with the written part told (a comprehension's block has it too) -/
section
variable {X : Cx}
theorem op_inK (K : PySem.W.Frag) (hK : X.K = K := by rfl) : OpR X (compareOp .In) (rInZ K id) := by subst hK; exact op_inZ
theorem op_notInK (K : PySem.W.Frag) (hK : X.K = K := by rfl) : OpR X (compareOp .NotIn) (rInZ K not) := by subst hK; exact op_notInZ
theorem op_eqK (K : PySem.W.Frag) (hu : X.A.units + 64 < cLine) (hK : X.K = K := by rfl) : OpR X (compareOp .Eq) (rEqZ K id) := by subst hK; exact op_eqZ hu
theorem op_neK (K : PySem.W.Frag) (hu : X.A.units + 64 < cLine) (hK : X.K = K := by rfl) : OpR X (compareOp .NotEq) (rEqZ K not) := by subst hK; exact op_neZ hu
theorem ix_K (K : PySem.W.Frag) (hK : X.K = K := by rfl) : IxR X (rIxZ K) := by subst hK; exact ix_Z
theorem sl_K (K : PySem.W.Frag) (hK : X.K = K := by rfl) : SlR X (rSlZ K) := by subst hK; exact sl_Z
theorem call_lenK (K : PySem.W.Frag) (hK : X.K = K := by rfl) : CallR X (.builtin "len") (rLenZ K) := by subst hK; exact call_lenZ
theorem call_allK (K : PySem.W.Frag) (hK : X.K = K := by rfl) (hc : X.calm = true := by rfl) : CallR X (.builtin "all") (rAllZ K fun bs => bs.all id) := by subst hK; exact call_allZ hc
theorem call_anyK (K : PySem.W.Frag) (hK : X.K = K := by rfl) (hc : X.calm = true := by rfl) : CallR X (.builtin "any") (rAllZ K fun bs => bs.any id) := by subst hK; exact call_anyZ hc
theorem call_isiK (K : PySem.W.Frag) (hK : X.K = K := by rfl) : CallR X (.builtin "isinstance") (rIsiZ K) := by subst hK; exact call_isiZ
theorem call_reprK (K : PySem.W.Frag) (hu : X.A.units + 64 < cLine) (hg : X.A.guards = some []) (hK : X.K = K := by rfl) : CallR X (.builtin "repr") (rReprZ K) := by subst hK; exact call_reprZ hu hg
theorem call_listK (K : PySem.W.Frag) (hK : X.K = K := by rfl) (hc : X.calm = true := by rfl) : CallR X (.type "list") (rListZ K) := by subst hK; exact call_listZ hc
theorem pget_K (K : PySem.W.Frag) (hK : X.K = K := by rfl) : PGet X (gIxZ K) := by subst hK; exact pget_Z
theorem pi_listK (K : PySem.W.Frag) {tg l : Expr} {tl : TE} (h : PE X l tl) (hK : X.K = K := by rfl) : PI X tg l (iList K tl) := by subst hK; exact pi_list h
theorem pi_tupK (K : PySem.W.Frag) {tg l : Expr} {tl : TE} (h : PE X l tl) (hK : X.K = K := by rfl) : PI X tg l (iTup K tl) := by subst hK; exact pi_tup h
/-- sep.join(texts) -/
def zJoin (K : PySem.W.Frag) (to te : TE) : TE := fun σ H Q => to σ H fun x H1 => te σ H1 fun y H2 => onS x fun a => onR y fun p => ∃ ys : List Str, (SqL K H2 p (ys.map V.str) ∨ SqT K H2 p (ys.map V.str)) ∧ (ys.map (·.length)).sum + ys.length * a.length ≤ 16777216 ∧ Q (.str (Txt.join a ys)) H2
/-- a tuple of a list, of a tuple -/
def rTupleZ (K : PySem.W.Frag) : List V → Hp → VK → Prop := fun vs H Q => match vs with
  | [.ref p] => ∃ ys, (SqL K H p ys ∧ ∀ l, H l = none → Q (.ref l) (upd H l (.tup ys))) ∨ (SqT K H p ys ∧ Q (.ref p) H)
  | _ => False
theorem call_tupleK (K : PySem.W.Frag) (hK : X.K = K := by rfl) : CallR X (.type "tuple") (rTupleZ K) := by
  subst hK
  refine callImp call_tuple_of fun xs H Q h => ?_
  unfold rTupleZ at h
  split at h
  · obtain ⟨ys, h⟩ := h
    exact ⟨_, ys, rfl, h⟩
  · exact h.elim
end
section
variable {K : PySem.W.Frag} {H : Hp} {Q : VK} {p : Addr} {bs : List Bool} {b : Bool}
theorem allL (h : SqL K H p (bs.map V.bl)) (e : bs.all id = b) (q : Q (.bl b) H) : rAllZ K (fun bs => bs.all id) [.ref p] H Q := ⟨bs, h, by
  show Q (.bl (bs.all id)) H
  rw [e]
  exact q⟩
theorem anyL (h : SqL K H p (bs.map V.bl)) (e : bs.any id = b) (q : Q (.bl b) H) : rAllZ K (fun bs => bs.any id) [.ref p] H Q := ⟨bs, h, by
  show Q (.bl (bs.any id)) H
  rw [e]
  exact q⟩
theorem bl_is {b b' : Bool} (e : b' = b) (q : Q (.bl b) H) : Q (.bl b') H := by
  rw [e]
  exact q
theorem inS {f : Bool → Bool} {c : Nat} {z : Str} (q : Q (.bl (f (decide (c ∈ z.cps.toList)))) H) : rInZ K f (.str ⟨#[c]⟩) (.str z) H Q := ⟨c, rfl, q⟩
end
theorem signIn1 (g : Nat → Bool) (c : Nat) : ([c] : List Nat).all g = g c := by
  rw [List.all_cons, List.all_nil, Bool.and_true]
/-- a reading of each sign of a text -/
def onSigns (g : Nat → Bool) : V → Bool
  | .str z => z.cps.toList.all g
  | _ => false
theorem onSigns1 (g : Nat → Bool) (c : Nat) : onSigns g (.str ⟨#[c]⟩) = g c := signIn1 g c
theorem signs_map (g : Nat → Bool) (x : Str) : (signsV x).map (fun v => V.bl (onSigns g v)) = (x.cps.toList.map g).map V.bl := by
  unfold signsV
  rw [List.map_map, List.map_map]
  refine List.map_congr_left fun c _ => ?_
  exact congrArg V.bl (onSigns1 g c)
theorem mem_signs {x : Str} {y : V} (h : y ∈ signsV x) : ∃ c, c ∈ x.cps.toList ∧ y = .str ⟨#[c]⟩ := by
  obtain ⟨c, hc, rfl⟩ := List.mem_map.mp h
  exact ⟨c, hc, rfl⟩
theorem iteN {c : Bool} {A B : Prop} (h1 : c = false → A) (h2 : c = true → B) : if (!c) = true then A else B := by
  cases c with
  | true => exact iteF (h2 rfl)
  | false => exact iteT (h1 rfl)
theorem map_get {α β : Type} {f : α → β} {l : List α} {i : Nat} {a : α} {b : β} (h : l[i]? = some a) (e : (l.map f)[i]? = some b) : b = f a := by
  rw [List.getElem?_map, h] at e
  exact (Option.some.inj e).symm
theorem mapb_get {α : Type} {f : α → Bool} {l : List α} {i : Nat} {a : α} {b : V} (h : l[i]? = some a) (e : ((l.map f).map V.bl)[i]? = some b) : b = .bl (f a) := by
  rw [List.getElem?_map, List.getElem?_map, h] at e
  exact (Option.some.inj e).symm
section
variable {K : PySem.W.Frag} {H : Hp} {Q : VK} {i j : Int} {x y : Str}
theorem ltI (q : Q (.bl (decide (i < j))) H) : rLtZ (.int i) (.int j) H Q := q
theorem leI (q : Q (.bl (decide (i ≤ j))) H) : rLeZ (.int i) (.int j) H Q := q
theorem gtI (q : Q (.bl (decide (j < i))) H) : rGtZ (.int i) (.int j) H Q := q
theorem geI (q : Q (.bl (decide (j ≤ i))) H) : rGeZ (.int i) (.int j) H Q := q
theorem geS (q : Q (.bl (!ltS x y)) H) : rGeZ (.str x) (.str y) H Q := q
theorem addI (q : Q (.int (i + j)) H) : rAddZ (.int i) (.int j) H Q := q
theorem addS (h : x.length + y.length ≤ sizeLine) (q : Q (.str (x ++ y)) H) : rAddZ (.str x) (.str y) H Q := ⟨h, q⟩
theorem mulI (h : CMul i j ∨ CMulW i j) (q : Q (.int (i * j)) H) : rMulZ (.int i) (.int j) H Q := ⟨h, q⟩
theorem lenS (h : x.length ≤ sizeLine) (q : Q (.int x.length) H) : rLenZ K [.str x] H Q := ⟨h, q⟩
end
theorem line5 {n : Nat} (h : n ≤ 100000) : n ≤ sizeLine := Nat.le_of_lt (small5 h)
/-! ### lists of texts compared -/
theorem dpA_strs (K : PySem.W.Frag) (H : Hp) : ∀ l : List Str, DpAll K H (l.map V.str) (l.map PyData.str)
  | [] => .nil
  | x :: l => .cons (.str x) (dpA_strs K H l)
theorem lay_strs : ∀ {l : List Str}, (∀ x ∈ l, okS x = true) → PyData.canLayAll0 (l.map PyData.str) = true
  | [], _ => by simp only [List.map_nil, PyData.canLayAll0]
  | x :: l, h => by
    have h1 : PyData.strOk x = true := by
      unfold PyData.strOk
      rw [← Array.all_toList]
      exact h x List.mem_cons_self
    simp only [List.map_cons, PyData.canLayAll0, PyData.canLay0, h1, lay_strs fun y m => h y (List.mem_cons_of_mem _ m), Bool.and_self]
theorem depth_strs : ∀ l : List Str, PyData.depthAll (l.map PyData.str) = 0
  | [] => by simp only [List.map_nil, PyData.depthAll]
  | x :: l => by simp only [List.map_cons, PyData.depthAll, PyData.depth, depth_strs l]; decide
theorem shaped_strs {l : List Str} (h : ∀ x ∈ l, okS x = true) : SeqAt.shaped (.list (l.map .str)) = true := by
  show (PyData.canLay0 (.list (l.map .str)) && decide (PyData.depth (.list (l.map .str)) ≤ 64)) = true
  rw [Bool.and_eq_true]
  refine ⟨by simp only [PyData.canLay0]; exact lay_strs h, decide_eq_true ?_⟩
  simp only [PyData.depth, depth_strs]
  omega
theorem eqv_strs : ∀ l m : List Str, PyData.eqvAll (l.map .str) (m.map .str) = decide (l = m)
  | [], [] => by simp [PyData.eqvAll]
  | [], _ :: _ => by simp [PyData.eqvAll]
  | _ :: _, [] => by simp [PyData.eqvAll]
  | x :: l, y :: m => by
    simp only [List.map_cons, PyData.eqvAll, PyData.eqv, eqv_strs l m]
    by_cases h : x = y
    · subst h
      simp
    · simp [h]
theorem eqStrs {K : PySem.W.Frag} {f : Bool → Bool} {H : Hp} {Q : VK} {p q : Addr} {l m : List Str} (h1 : SqL K H p (l.map V.str)) (h2 : SqL K H q (m.map V.str)) (o1 : ∀ x ∈ l, okS x = true) (o2 : ∀ x ∈ m, okS x = true)
    (k : Q (.bl (f (decide (l = m)))) H) : rEqZ K f (.ref p) (.ref q) H Q := by
  refine ⟨.list (l.map .str), .list (m.map .str), .lst h1 (dpA_strs K H l), .lst h2 (dpA_strs K H m), shaped_strs o1, shaped_strs o2, ?_⟩
  have e : PyData.eqv (.list (l.map .str)) (.list (m.map .str)) = decide (l = m) := by
    simp only [PyData.eqv]
    exact eqv_strs l m
  rw [e]
  exact k
/-- one sign as a text -/
def one (c : Nat) : Str := ⟨#[c]⟩
theorem signs_filter (g : Nat → Bool) (x : Str) : ((signsV x).filter fun v => onSigns g v).map (fun v => v) = ((x.cps.toList.filter g).map one).map V.str := by
  rw [List.map_id']
  unfold signsV
  rw [List.filter_map, List.map_map]
  have e : ((fun v => onSigns g v) ∘ fun c => V.str ⟨#[c]⟩) = g := by
    funext c
    exact onSigns1 g c
  rw [e]
  rfl
theorem filter_nil (g : Nat → Bool) (l : List Nat) : decide ((l.filter (fun c => !g c)).map one = ([] : List Str)) = l.all g := by
  rw [Bool.eq_iff_iff, decide_eq_true_iff, List.map_eq_nil_iff, List.filter_eq_nil_iff, List.all_eq_true]
  refine ⟨fun h c m => ?_, fun h c m => ?_⟩
  · have z := h c m
    cases e : g c with
    | true => rfl
    | false => rw [e] at z; exact absurd rfl z
  · rw [h c m]
    exact Bool.false_ne_true
theorem ok_one {x : Str} (h : okS x = true) {c : Nat} (m : c ∈ x.cps.toList) : okS (one c) = true := by
  show ([c] : List Nat).all _ = true
  rw [signIn1]
  exact List.all_eq_true.mp h c m
theorem ok_ones {x : Str} (h : okS x = true) (g : Nat → Bool) : ∀ y ∈ (x.cps.toList.filter g).map one, okS y = true := by
  intro y hy
  obtain ⟨c, hc, rfl⟩ := List.mem_map.mp hy
  exact ok_one h (List.mem_filter.mp hc).1
theorem nice_okS {R n : Nat} {x : Str} (h : Nice R n (.str x)) : okS x = true := by
  have z := h.ly (by simp only [PyData.hasDict])
  simp only [PyData.canLay0] at z
  unfold PyData.strOk at z
  rw [← Array.all_toList] at z
  exact z
theorem nice_mem {R n : Nat} {ds : List PyData} (h : Nice R n (.list ds)) (hd : PyData.hasDictAll ds = false) {x : Str} (m : PyData.str x ∈ ds) : okS x = true := by
  have z := h.ly (by simpa only [PyData.hasDict] using hd)
  simp only [PyData.canLay0] at z
  clear h hd
  induction ds with
  | nil => cases m
  | cons e ds ih =>
    simp only [PyData.canLayAll0, Bool.and_eq_true] at z
    rcases List.mem_cons.mp m with rfl | m
    · have y := z.1
      simp only [PyData.canLay0] at y
      unfold PyData.strOk at y
      rw [← Array.all_toList] at y
      exact y
    · exact ih m z.2
end Z

set_option maxRecDepth 100000
set_option maxHeartbeats 2000000
namespace Z
open PySem PySem.Spec PyProof.Rows L2
/-! ### cuts of lists -/
theorem cut_to (xs : List V) (j : Nat) : cutV xs none (some (j : Int)) = xs.take j := by
  unfold cutV
  rw [HT.sIx_nat, HT.sIx_none, List.drop_zero, Nat.sub_zero]
  by_cases h : j ≤ xs.length
  · rw [Nat.min_eq_left h]
  · rw [Nat.min_eq_right (by omega), List.take_of_length_le (Nat.le_refl _), List.take_of_length_le (by omega)]
theorem cut_from (xs : List V) (j : Nat) : cutV xs (some (j : Int)) none = xs.drop j := by
  unfold cutV
  rw [HT.sIx_nat, HT.sIx_none]
  by_cases h : j ≤ xs.length
  · rw [Nat.min_eq_left h, List.take_of_length_le (by rw [List.length_drop]; omega)]
  · rw [Nat.min_eq_right (by omega), List.drop_eq_nil_of_le (Nat.le_refl _), List.drop_eq_nil_of_le (by omega), List.take_nil]
theorem cut_mid (xs : List V) (i j : Nat) (h : i ≤ xs.length) : cutV xs (some (i : Int)) (some (j : Int)) = (xs.drop i).take (j - i) := by
  unfold cutV
  rw [HT.sIx_nat, HT.sIx_nat, Nat.min_eq_left h]
  by_cases z : j ≤ xs.length
  · rw [Nat.min_eq_left z]
  · rw [Nat.min_eq_right (by omega), List.take_of_length_le (by rw [List.length_drop]; omega), List.take_of_length_le (by rw [List.length_drop]; omega)]
section
variable {K : PySem.W.Frag} {H : Hp} {Q : VK} {a : Addr} {xs : List V} {lo hi : Option Int}
theorem slL (h : SqL K H a xs) (q : ∀ p, H p = none → Q (.ref p) (upd H p (.lst (cutV xs lo hi)))) : rSlZ K (.ref a) lo hi H Q := ⟨xs, h, q⟩
end
/-! ### comprehensions over a list that is just made -/
section
variable {K : PySem.W.Frag} {tl : TE} {xs : List V} {j : Nat} {vs : List Nat} {σ : L2.St} {tt : TT} {te : TE} {H : Hp} {Q : VK}
theorem comp_listF (g : V → V) (h0 : ∀ R : VK, (∀ p H1, Same H H1 → SqL K H1 p xs → R (.ref p) H1) → tl σ H R) (hz : xs.length ≤ 100000)
    (he : ∀ y, y ∈ xs → ∀ H', Same H H' → ∀ Q' : VK, (∀ H'', Same H' H'' → Q' (g y) H'') → te ((σ.set j none).set j (some y)) H' Q')
    (k : ∀ D H', H D = none → Same H H' → H' D = some (.lst (xs.map g)) → Q (.ref D) H') (hv : vs = [j] := by rfl) : tLc (iList K tl) (gName j) tYes te vs σ H Q := by
  refine h0 _ fun p H1 s1 q => ⟨p, rfl, ⟨xs, q⟩, ?_⟩
  exact lcM (J := Itl K p) (G := fun H => SqL K H p xs) (H := H1) (hv := hv) walk_list g (fun H' s' => s'.seq q) hz (fun x m H' s' => he x m H' (s1.trans s')) fun D H' h1 h2 h3 => k D H' (s1.free h1) (s1.trans h2) h3
end
/-! ### one of a list, drawn -/
section
variable {K : PySem.W.Frag} {ω : Bg} {H : Hp} {Q : VK} {E : XK} {p : Addr} {xs : List V} {m : Int}
theorem take_n (g : Bag K H ω) (h0 : 0 < m) (h1 : m ≤ 1000000) (q : ∀ (j : Nat) H', (j : Int) < m → Bag K H' ω → Go ω.b H H' → Q (.int j) H') : spTake K [.ref ω.b, .int m] H Q E :=
  ⟨ω, m, rfl, g, h0, by omega, fun v H' a b g' go => by
    obtain ⟨j, rfl⟩ := Int.eq_ofNat_of_zero_le a
    exact q j H' b g' go⟩
theorem take_at (g : Bag K H ω) (hp : H p = some (.lst xs)) (np : p ≠ ω.b) (hm : m = (xs.length : Int)) (h0 : 0 < m) (h1 : m ≤ 1000000) (q : ∀ x, x ∈ xs → ∀ H', Bag K H' ω → Go ω.b H H' → Q x H') :
    spTake K [.ref ω.b, .int m] H (fun y H2 => rIxZ K (.ref p) y H2 Q) E :=
  take_n g h0 h1 fun j H' hj g' go => by
    have h : j < xs.length := by omega
    exact ixN (sq_of (go _ _ np hp)) (List.getElem?_eq_getElem h) (q _ (List.getElem_mem h) H' g' go)
theorem bag_ne (g : Bag K H ω) (hp : H p = none) : p ≠ ω.b := fun e => by
  obtain ⟨o, z⟩ := g.some
  rw [e, z] at hp
  cases hp
end
theorem bag_mut {K : PySem.W.Frag} {ω : Bg} {H H' : Hp} {D : Addr} {o : HO} (g0 : Bag K H ω) (hD : H D = none) (g : Bag K H' ω) : Bag K (upd H' D o) ω := by
  have nb : D ≠ ω.b := bag_ne g0 hD
  obtain ⟨x0, x1, x2, g⟩ := g
  obtain ⟨y0, y1, y2, g0⟩ := g0
  refine ⟨x0, x1, x2, by rw [upd_ne (Ne.symm nb)]; exact g.at_, ?_, g.ne, g.h0, g.h1, g.h2, g.hc⟩
  rcases g0.cells with (q | ⟨u, q⟩) | q
  · exact seq_ne g.cells (ne_of_none q hD)
  · exact seq_ne g.cells (ne_of_none q hD)
  · exact Or.inr q
/-! ### comprehensions with draws, what is made told by one property -/
section
variable {K : PySem.W.Frag} {ω : Bg} {J : It} {xs : List V} {G : Hp → Prop} {j : Nat} {σ : L2.St} {te : TE} {H : Hp} {Q : VK}
theorem lcE {vs : List Nat} (w : Walk J xs.length G (YAt xs)) (B : Addr → Bool) (wd : Wd K B ω H) (P : Nat → V → Hp → Prop) (mono : ∀ i y G1 G2, Same G1 G2 → P i y G1 → P i y G2)
    (hG : ∀ H', Same (hd B H) (hd B H') → G H') (hz : xs.length ≤ 100000)
    (hs : ∀ i x B' H', xs[i]? = some x → (∀ a, B a = true → B' a = true) → Same (hd B H) (hd B' H') → Wd K B' ω H' → ∀ Q' : VK, (∀ y H4, Bag K H4 ω → Go ω.b H' H4 → P i y (hd B' H4) → Q' y H4) → te ((σ.set j none).set j (some x)) H' Q')
    (k : ∀ D acc H', H D = none → acc.length = xs.length → (∀ (i : Nat) y, acc[i]? = some y → P i y (hd (hide D B) H')) → Wd K B ω H' → Go ω.b H H' → H' D = some (.lst acc) → Q (.ref D) H') (hv : vs = [j] := by rfl) : LcAsk J (gName j) tYes te vs σ H Q := by
  subst hv
  intro D hD
  have nb : D ≠ ω.b := bag_ne wd.bag hD
  have bD : B D = false := wd.off hD
  refine lc_it w (fun i H' => ∃ acc, acc.length = i ∧ Wd K B ω H' ∧ Go ω.b H H' ∧ H' D = some (.lst acc) ∧ ∀ (n : Nat) y, acc[n]? = some y → P n y (hd (hide D B) H')) ⟨[], rfl, wd.same (same_new hD), Go.of (same_new hD), upd_same, fun n y z => by simp at z⟩ ?_ ?_ ?_
  · rintro i H' _ ⟨acc, _, wd', g', _, _⟩
    exact hG H' (g'.hd wd.hb)
  · rintro i x H1 H2 hi ⟨acc, hl, wd', g', hd', iv⟩ ⟨rfl, hx⟩
    refine ⟨wipe_set σ j _, ?_⟩
    have sm : Same (hd B H) (hd (hide D B) H2) := fun a o z => by
      obtain ⟨h1, h2⟩ := hd_some z
      have n : a ≠ D := ne_of_none h2 hD
      refine hd_of ?_ (g' a o (fun e => by rw [e, wd.hb] at h1; cases h1) h2)
      unfold hide
      rw [h1, decide_eq_false n]
      rfl
    dsimp only [tYes]
    rw [if_pos rfl]
    refine hs i x (hide D B) H2 hx (fun a z => by unfold hide; rw [z, Bool.or_true]) sm (wd'.more hd') _ fun y H4 z1 z2 z3 => ?_
    have d4 : H4 D = some (.lst acc) := z2 _ _ nb hd'
    refine ⟨acc, d4, small5 (by omega), acc ++ [y], by rw [List.length_append, hl]; rfl, ?_, ?_, upd_same, ?_⟩
    · have w4 : Wd K B ω H4 := wd'.go z1 z2
      refine ⟨?_, w4.hb, fun a z => ?_⟩
      · obtain ⟨x0, x1, x2, g⟩ := z1
        obtain ⟨y0, y1, y2, g0⟩ := wd.bag
        refine ⟨x0, x1, x2, by rw [upd_ne (Ne.symm nb)]; exact g.at_, ?_, g.ne, g.h0, g.h1, g.h2, g.hc⟩
        rcases g0.cells with (q | ⟨u, q⟩) | q
        · exact seq_ne g.cells (ne_of_none q hD)
        · exact seq_ne g.cells (ne_of_none q hD)
        · exact Or.inr q
      · by_cases e : a = D
        · rw [e, upd_same]
          exact Option.some_ne_none _
        · rw [upd_ne e]
          exact w4.hB a z
    · exact go_new (g'.trans z2) hD
    · intro n y' z
      refine mono _ _ _ _ (hide_same D B H4) ?_
      rw [List.getElem?_append] at z
      split at z
      · refine mono _ _ _ _ ?_ (iv n y' z)
        exact z2.hd (wd'.more hd').hb
      · rename_i h
        have e : n = acc.length := by
          have := (List.getElem?_eq_some_iff.mp z).1
          simp at this
          omega
        subst e
        rw [Nat.sub_self] at z
        cases z
        rw [hl]
        exact z3
  · rintro H' ⟨acc, hl, wd', g', hd', iv⟩
    exact k D acc H' hD hl iv wd' g' hd'
/-- over range(n), n told behind draws, too -/
theorem comp_rngD {ta : TA} {vs : List Nat} (B : Addr → Bool) (wd : Wd K B ω H) (P : Nat → V → Hp → Prop) (mono : ∀ i y G1 G2, Same G1 G2 → P i y G1 → P i y G2) (n : Nat) (hz : n ≤ 100000) (h0 : ∀ R : List V → Hp → Prop, R [.int (n : Int)] H → ta σ H R)
    (hs : ∀ (i : Nat) B' H', i < n → (∀ a, B a = true → B' a = true) → Same (hd B H) (hd B' H') → Wd K B' ω H' → ∀ Q' : VK, (∀ y H4, Bag K H4 ω → Go ω.b H' H4 → P i y (hd B' H4) → Q' y H4) → te ((σ.set j none).set j (some (.int (i : Int)))) H' Q')
    (k : ∀ D acc H', H D = none → acc.length = n → (∀ (i : Nat) y, acc[i]? = some y → P i y (hd (hide D B) H')) → Wd K B ω H' → Go ω.b H H' → H' D = some (.lst acc) → Q (.ref D) H') (hv : vs = [j] := by rfl) : tLc (iRng1 ta) (gName j) tYes te vs σ H Q := by
  unfold tLc iRng1
  refine h0 _ ⟨n, rfl, by omega, by omega, ?_⟩
  rw [Int.toNat_natCast]
  refine lcE (G := fun _ => True) (hv := hv) walk_rangeV B wd P mono (fun _ _ => trivial) (by rw [rangeV_len]; exact hz) ?_ ?_
  · intro i x B' H' hx hB s' w' Q' q
    obtain ⟨h1, rfl⟩ := rangeV_get hx
    rw [Int.zero_add]
    exact hs i B' H' h1 hB s' w' Q' q
  · intro D acc H' a b c d e f
    rw [rangeV_len] at b
    exact k D acc H' a b c d e f
end
/-! ### sep.join(texts) -/
section
variable {X : Cx} {o e : Expr} {to te : TE}
def rJoinZ (K : PySem.W.Frag) : V → List V → Hp → VK → Prop := fun x xs H Q => match x, xs with
  | .str a, [.ref p] => ∃ ys : List Str, (SqL K H p (ys.map V.str) ∨ SqT K H p (ys.map V.str)) ∧ (ys.map (·.length)).sum + ys.length * a.length ≤ 16777216 ∧ Q (.str (Txt.join a ys)) H
  | _, _ => False
theorem pe_joinK (K : PySem.W.Frag) {apos pos : Pos} (ho : PE X o to) (he : PE X e te) (hK : X.K = K := by rfl) (hs : starEach [e] X.env = [(false, eval e X.env)] := by rfl) (hbase : attributeBase o "join" X.env (eval o X.env) = eval o X.env := by rfl) (hline : (apos.endLine == pos.line) = true := by rfl) :
    PE X (.Call (.Attribute o "join" apos) [e] [] pos) (tM1 (rJoinZ K) to te) := by
  subst hK
  refine pe_m1 F.slot_str_join F.type_str_join (mtImp mt_join fun x xs H Q h => ?_) ho he hs hbase hline
  unfold rJoinZ at h
  split at h
  · obtain ⟨ys, h⟩ := h
    exact ⟨_, _, ys, rfl, rfl, h⟩
  · exact h.elim
theorem joinI {K : PySem.W.Frag} {H : Hp} {Q : VK} {a : Str} {p : Addr} {ys : List Str} (h : SqL K H p (ys.map V.str)) (z : (ys.map (·.length)).sum + ys.length * a.length ≤ 16777216) (q : Q (.str (Txt.join a ys)) H) : rJoinZ K (.str a) [.ref p] H Q := ⟨ys, .inl h, z, q⟩
end
theorem joinL_nil : ∀ ys : List (List Nat), TL.joinL [] ys = ys.flatten
  | [] => rfl
  | [p] => by simp [TL.joinL]
  | p :: q :: r => by
    show p ++ ([] ++ TL.joinL [] (q :: r)) = p ++ (q :: r).flatten
    rw [joinL_nil (q :: r), List.nil_append]
theorem join_0 (ys : List (List Nat)) : Txt.join "" (ys.map SX.S) = SX.S ys.flatten := by
  have e : ("" : Str) = SX.S [] := by decide
  rw [e, SX.join_S, joinL_nil]
theorem join_1s (cs : List Nat) : Txt.join "" (cs.map one) = SX.S cs := by
  have e : cs.map one = (cs.map fun c => [c]).map SX.S := by
    rw [List.map_map]
    rfl
  rw [e, join_0]
  have z : (cs.map fun c => [c]).flatten = cs := by
    clear e
    induction cs with
    | nil => rfl
    | cons c cs ih => simpa using ih
  rw [z]
theorem sum_ones (cs : List Nat) : ((cs.map one).map (·.length)).sum = cs.length := by
  induction cs with
  | nil => rfl
  | cons c cs ih =>
    simp only [List.map_cons, List.sum_cons, ih, List.length_cons]
    show 1 + cs.length = _
    omega
/-- items of one kind, as their list -/
theorem items_of {α : Type} {mk : α → V} {P : α → Prop} : ∀ {acc : List V}, (∀ y ∈ acc, ∃ c, y = mk c ∧ P c) → ∃ cs : List α, acc = cs.map mk ∧ ∀ c ∈ cs, P c
  | [], _ => ⟨[], rfl, fun _ m => nomatch m⟩
  | y :: acc, h => by
    obtain ⟨c, rfl, hc⟩ := h y List.mem_cons_self
    obtain ⟨cs, rfl, hcs⟩ := items_of fun z m => h z (List.mem_cons_of_mem _ m)
    refine ⟨c :: cs, rfl, fun d m => ?_⟩
    rcases List.mem_cons.mp m with rfl | m
    · exact hc
    · exact hcs d m
theorem ixS {K : PySem.W.Frag} {H : Hp} {Q : VK} {z : Str} {j : Nat} (hz : z.length ≤ sizeLine) (h : j < z.length) (q : ∀ c, c ∈ z.cps.toList → Q (.str (one c)) H) : rIxZ K (.str z) (.int (j : Int)) H Q := by
  have h2 : j < z.cps.toList.length := by simpa [Str.length] using h
  exact ⟨j, _, rfl, hz, atI_nat (List.getElem?_eq_getElem h2), q _ (List.getElem_mem h2)⟩
theorem mem_of_get {acc : List V} {P : V → Prop} (h : ∀ (i : Nat) y, acc[i]? = some y → P y) : ∀ y ∈ acc, P y := fun y m => by
  obtain ⟨i, hi⟩ := List.getElem?_of_mem m
  exact h i y hi
/-! ### ifs that only look -/
section
variable {c c1 c2 : TT} {a b : TS} {D : Ends} {σ : L2.St} {H : Hp} {b1 b2 : Bool}
theorem ifS_at (b1 : Bool) (h1 : ∀ R : Bool → Hp → Prop, R b1 H → c σ H R) (ha : b1 = true → a D σ H) (hb : b1 = false → b D σ H) : tIfS c a b D σ H := by
  refine h1 _ ?_
  cases b1 with
  | true => rw [if_pos rfl]; exact ha rfl
  | false => rw [if_neg Bool.false_ne_true]; exact hb rfl
theorem ifS_and (b1 b2 : Bool) (h1 : ∀ R : Bool → Hp → Prop, R b1 H → c1 σ H R) (h2 : b1 = true → ∀ R : Bool → Hp → Prop, R b2 H → c2 σ H R) (ha : b1 = true → b2 = true → a D σ H) (hb : b D σ H) : tIfS (tAnd c1 c2) a b D σ H := by
  refine h1 _ ?_
  cases b1 with
  | true =>
    rw [if_pos rfl]
    refine h2 rfl _ ?_
    cases b2 with
    | true => rw [if_pos rfl]; exact ha rfl rfl
    | false => rw [if_neg Bool.false_ne_true]; exact hb
  | false =>
    rw [if_neg Bool.false_ne_true]
    show if false = true then _ else _
    rw [if_neg Bool.false_ne_true]
    exact hb
end
section
variable {K : PySem.W.Frag} {H : Hp} {Q : VK} {p q : Addr} {xs ys : List V}
theorem catL (h1 : H p = some (.lst xs)) (h2 : H q = some (.lst ys)) (z : xs.length + ys.length ≤ 100000) (k : ∀ r, H r = none → Q (.ref r) (upd H r (.lst (xs ++ ys)))) : rAddZ (.ref p) (.ref q) H Q := ⟨xs, ys, h1, h2, line5 z, k⟩
end
/-! ### texts of few codes -/
/-- a text of a law's own signs: few codes -/
def okT (x : Str) : Bool := x.cps.toList.all fun c => decide (c < 128)
theorem okT_S {l : List Nat} (h : ∀ c ∈ l, c < 128) : okT (SX.S l) = true := List.all_eq_true.mpr fun c m => decide_eq_true (h c (by simpa using m))
theorem okT_mem {x : Str} (h : okT x = true) {c : Nat} (m : c ∈ x.cps.toList) : c < 128 := of_decide_eq_true (List.all_eq_true.mp h c m)
theorem okT_okS {x : Str} (h : okT x = true) : okS x = true := List.all_eq_true.mpr fun c m => decide_eq_true (Nat.lt_trans (okT_mem h m) (by decide))
theorem str_len (x : Str) : x.cps.toList.length = x.length := by simp [Str.length]
theorem okT_cat {x y : Str} (hx : okT x = true) (hy : okT y = true) : okT (x ++ y) = true := by
  have e : x ++ y = SX.S (x.cps.toList ++ y.cps.toList) := by
    rw [← SX.S_cat, SX.S_tl, SX.S_tl]
  rw [e]
  refine okT_S fun c m => ?_
  rcases List.mem_append.mp m with m | m
  · exact okT_mem hx m
  · exact okT_mem hy m
theorem lenCat (x y : Str) : (x ++ y).length = x.length + y.length := by
  have e : x ++ y = SX.S (x.cps.toList ++ y.cps.toList) := by
    rw [← SX.S_cat, SX.S_tl, SX.S_tl]
  rw [e, SX.S_len, List.length_append, str_len, str_len]
theorem to_S (x : Str) {i : Int} (h : 0 ≤ i) : Txt.slice x none (some i) = SX.S (x.cps.toList.take i.toNat) := by
  have z := SX.slice_to (a := x.cps.toList) h
  rwa [SX.S_tl] at z
theorem from_S (x : Str) {i : Int} (h : 0 ≤ i) : Txt.slice x (some i) none = SX.S (x.cps.toList.drop i.toNat) := by
  have z := SX.slice_from (a := x.cps.toList) h
  rwa [SX.S_tl] at z
theorem okT_to {x : Str} (hx : okT x = true) {i : Int} (h : 0 ≤ i) : okT (Txt.slice x none (some i)) = true := by
  rw [to_S x h]
  exact okT_S fun c m => okT_mem hx (List.mem_of_mem_take m)
theorem okT_from {x : Str} (hx : okT x = true) {i : Int} (h : 0 ≤ i) : okT (Txt.slice x (some i) none) = true := by
  rw [from_S x h]
  exact okT_S fun c m => okT_mem hx (List.mem_of_mem_drop m)
theorem len_to (x : Str) {i : Int} (h : 0 ≤ i) : (Txt.slice x none (some i)).length = min i.toNat x.length := by
  rw [to_S x h, SX.S_len, List.length_take, str_len]
theorem len_from (x : Str) {i : Int} (h : 0 ≤ i) : (Txt.slice x (some i) none).length = x.length - i.toNat := by
  rw [from_S x h, SX.S_len, List.length_drop, str_len]
theorem Wd.one {K : PySem.W.Frag} {ω : Bg} {H : Hp} (g : Bag K H ω) : Wd K (fun q => decide (q = ω.b)) ω H := ⟨g, decide_eq_true rfl, fun a z e => by
  obtain ⟨o, h⟩ := g.some
  rw [of_decide_eq_true z, h] at e
  cases e⟩
theorem off_one {ω : Bg} {p : Addr} (h : p ≠ ω.b) : (fun q => decide (q = ω.b)) p = false := decide_eq_false h
/-! ### dicts and lists that are shown -/
theorem nice_dic0 (R n : Nat) : Nice R (n + 1) (.dict []) := ⟨by simp only [PyData.showable, PyData.showableKv], by simp only [PyData.leavesShort, PyData.leavesShortKv], by simp only [PyData.weight, PyData.weightKv]; omega, by simp only [PyData.depth, PyData.depthKv]; omega, fun z => by simp [PyData.hasDict] at z⟩
theorem nice_dic1 {R R' n : Nat} {k : Str} {d : PyData} (hk : Nice R n (.str k)) (h : Nice R n d) (e : 2 * R + 2 ≤ R') : Nice R' (n + 1) (.dict [(.str k, d)]) := by
  obtain ⟨a1, a2, a3, a4, _⟩ := hk
  obtain ⟨b1, b2, b3, b4, _⟩ := h
  refine ⟨by simp only [PyData.showable, PyData.showableKv, a1, b1, Bool.and_self] at *, ?_, ?_, ?_, fun z => by simp [PyData.hasDict] at z⟩
  · simp only [PyData.leavesShort, PyData.leavesShortKv, b2, Bool.and_true]
    simpa only [PyData.leavesShort] using a2
  · simp only [PyData.weight, PyData.weightKv] at *
    omega
  · simp only [PyData.depth, PyData.depthKv] at *
    omega
/-- what a for asks, folded -/
def ForAsk (J : It) (g : TG) (tb : TS) (D : Ends) (σ : L2.St) (H : Hp) : Prop := ∃ W : Nat → Nat → L2.St → Hp → Prop, (∃ m, W 0 m σ H) ∧ ∀ i m σ H, W i m σ H →
  (J.stop i H ∧ D.nx σ H) ∨ (J.go i H ∧ ∃ N : L2.St → Hp → Prop, (∀ σ' H', N σ' H' → ∃ m', m' < m ∧ W (i + 1) m' σ' H') ∧ ∀ x H', J.yld i H x H' → g x σ H' fun σ2 H2 => tb { D with nx := N, ct := N, bk := D.nx } σ2 H2)
theorem for_rng {ta : TA} {g : TG} {tb : TS} {D : Ends} {σ : L2.St} {H : Hp} (h : ta σ H fun vs H1 => ∃ j : Int, vs = [.int j] ∧ -(2 ^ 62) ≤ j ∧ j < 2 ^ 62 ∧ ForAsk (Itr 0 j.toNat) g tb D σ H1) : tFor (iRng1 ta) g tb D σ H := h
theorem for_lst {K : PySem.W.Frag} {tl : TE} {g : TG} {tb : TS} {D : Ends} {σ : L2.St} {H : Hp} (h : tl σ H fun x H1 => ∃ p, x = .ref p ∧ (∃ xs, SqL K H1 p xs) ∧ ForAsk (Itl K p) g tb D σ H1) : tFor (iList K tl) g tb D σ H := h
end Z

set_option maxRecDepth 100000
set_option maxHeartbeats 4000000
namespace Z
open PySem PySem.Spec PySem.Builtin PySem.Builtin.Str PyProof.Rows L2
/-! ### enumerate(a tuple), enumerate(a text) -/
/-- n items, each with its place in a new pair -/
def JG (n : Nat) (Y : Nat → V → Prop) (G : Hp → Prop) : It :=
  ⟨fun i H => G H ∧ i < n, fun i H v H' => ∃ T x, v = .ref T ∧ H T = none ∧ H' = upd H T (.tup [.int (i : Nat), x]) ∧ Y i x, fun i H => G H ∧ n ≤ i⟩
theorem turn_enumG {P : Program} {w : World} {K : PySem.W.Frag} {elts : List Expr} {kk : Nat} {tpos : Pos} {titer : Nat → Heap → Prop} {n : Nat} {Y : Nat → V → Prop} {G : Hp → Prop} {e it : Addr}
    (hk : ∀ i h h', titer i h → (∀ o, h.get? it = some o → h'.get? it = some o) → titer i h')
    (ho : ∀ i h, titer i h → ∃ o, h.get? it = some o ∧ ∀ v, o.data ≠ .cell v)
    (hD : ∀ (X : Cx) (pins : List (Addr × Obj)) (σ : L2.St) (H : Hp) (s : Shared), X.prog = P → X.w = w → X.K = K → X.calm = true → Inv X pins σ H s → G H → ∃ (fp2 : List Addr) (Pv : Nat → Value → Prop) (St : Nat → Heap → Prop),
      Draws P w X.A.in1 it fp2 n Pv St ∧ (∀ i, titer i s.heap → St i s.heap) ∧ (∀ i h, St i h → titer i h) ∧ e ∉ fp2 ∧ ∀ i u, Pv i u → ∃ x, RelV x u ∧ Y i x) :
    Turn P w K (.Tuple elts kk tpos) (JG n Y G) [e, it] e (fun i h => (∃ old, IsEnum h e it ((i : Nat) : Int) old) ∧ titer i h ∧ e ≠ it ∧ i ≤ n) where
  mem := by simp
  obj := fun i h st b hb => by
    obtain ⟨⟨old, he⟩, ti, _, _⟩ := st
    have e' : b = e ∨ b = it := by simpa using hb
    rcases e' with z | z
    · rw [z]; exact ⟨_, he, fun v q => nomatch q⟩
    · rw [z]; exact ho i h ti
  keep := fun i h h' st k => let ⟨⟨old, he⟩, hi, hne, hle⟩ := st; ⟨⟨old, k e (by simp) _ he⟩, hk i h h' hi fun o q => k it (by simp) o q, hne, hle⟩
  item := by
    intro X hP hw hK hc i pins s σ H E I hf st hg
    obtain ⟨⟨old, he⟩, hit, hne, _⟩ := st
    obtain ⟨hG, hlt⟩ := hg
    obtain ⟨fp2, Pv, St, D, d1, d2, d3, d4⟩ := hD X pins σ H s hP hw hK hc I hG
    subst hP hw hK
    have hel : e < s.heap.objs.size := Heap.lt_size he
    have hil : it < s.heap.objs.size := by obtain ⟨o, q, _⟩ := ho i _ hit; exact Heap.lt_size q
    refine wpAny_pyNext_enum_itemD D he (d1 i hit) hlt hne d3 fun u h' tk hPu ho' hst' hT hsz hk' => ?_
    obtain ⟨x, ru, hY⟩ := d4 i u hPu
    refine ⟨_, rfl, wpAny_letOwnedTupleGo_enum (s := { s with heap := h', toks := tk + 1 }) ho' fun h'' he' sb => ?_⟩
    have hT2 : h''.get? s.heap.objs.size = some { cls := .type "tuple", data := .seq #[.int i tk, u] } := (sb.2 _ (Nat.ne_of_gt hel)).trans hT
    have new : ObjOk X.prog X.w (upd H s.heap.objs.size (.tup [.int (i : Nat), x])) h'' s.heap.objs.size (.tup [.int (i : Nat), x]) :=
      ⟨by show 2 ≤ sizeLine; decide, [.int i tk, u], .cons ⟨_, rfl⟩ (.cons ru .nil), ⟨_, hT2, rfl, _, rfl⟩⟩
    have I1 : Inv X pins σ (upd H s.heap.objs.size (.tup [.int (i : Nat), x])) { s with heap := h'', toks := tk + 1 } :=
      I.turnedNew (ch := [e, it]) (fun b ob hb q => (sb.2 b (fun z => hb (by simp [z]))).trans (hk' b ob (fun z => hb (by simp [z])) (fun z => hb (by simp [z])) q)) hf (Nat.le_refl _) new
    refine ⟨.ref s.heap.objs.size, _, I1, rfl, ⟨_, x, rfl, I.hok.fresh (Nat.le_refl _), rfl, hY⟩, ⟨⟨u, ?_⟩, hk (i + 1) h' h'' (d2 _ _ hst') (fun o q => (sb.2 it (Ne.symm hne)).trans q), hne, hlt⟩, fun b hb => ?_⟩
    · have e1 : ((i + 1 : Nat) : Int) = (i : Int) + 1 := by omega
      rw [e1]; exact he'
    · have hb' : b < s.heap.objs.size := by
        have e' : b = e ∨ b = it := by simpa using hb
        rcases e' with z | z
        · rw [z]; exact hel
        · rw [z]; exact hil
      rw [upd_ne (Nat.ne_of_lt hb')]
      exact (hf b hb).1
  done := by
    intro X hP hw hK hc i pins s σ H E I hf st hg
    obtain ⟨⟨old, he⟩, hit, hne, hle⟩ := st
    obtain ⟨hG, hge⟩ := hg
    obtain ⟨fp2, Pv, St, D, d1, d2, d3, d4⟩ := hD X pins σ H s hP hw hK hc I hG
    have e1 : i = n := Nat.le_antisymm hle hge
    subst e1
    subst hP hw hK
    obtain ⟨f0, f1, f2, f3, f4, f5⟩ := hf it (by simp)
    exact wpAny_pyNext_enum_endD D he (d1 i hit) fun h' eb => ⟨rfl, I.turned (t' := s.toks) (fun b o hb q => eb b o hb q) f0 f1 f3 f4 f5⟩
  self := fun A i s Q E st h => let ⟨⟨_, he⟩, _⟩ := st; wpAny_pyIter_enum he h
/-- over a text -/
def iEnumS (ta : TA) : TI := fun σ H R => ta σ H fun vs H1 => ∃ z : Str, vs = [.str z] ∧ R (JG z.length (fun i x => (signsV z)[i]? = some x) fun _ => True) H1
theorem fp_two {X : Cx} {pins : List (Addr × Obj)} {σ : L2.St} {H : Hp} {s : Shared} (I : Inv X pins σ H s) : ∀ b ∈ [s.heap.objs.size + 1, s.heap.objs.size], FpOk X pins H b := fun b hb => by
  have e' : b = s.heap.objs.size + 1 ∨ b = s.heap.objs.size := by simpa using hb
  have hle : s.heap.objs.size ≤ b := by
    rcases e' with z | z
    · rw [z]; exact Nat.le_add_right _ _
    · rw [z]; exact Nat.le_refl _
  exact I.fpOk hle (I.hok.fresh hle)
theorem pi_enumS {X : Cx} {e : Expr} {ta : TA} {p pos tpos : Pos} {elts : List Expr} {kk : Nat} (hg : Gl X "enumerate") (hm : X.mg "enumerate" = none) (ha : PA X [e] ta) (hs : starEach [e] X.env = [(false, eval e X.env)] := by rfl) :
    PI X (.Tuple elts kk tpos) (.Call (.Name "enumerate" p) [e] [] pos) (iEnumS ta) := by
  refine ⟨fun pins s σ H R I h => ?_⟩
  refine Call_ (ld_blt I hg hm boot_enumerate (PyProof.Rows.callWith_type1 (thn (ha.run pos pins s σ H _ I h) fun us s1 ⟨vs, H1, I1, r1, q1⟩ => ?_) hs rfl))
  obtain ⟨z, ex, q⟩ := q1
  subst ex
  cases r1 with
  | cons r rr =>
    cases rr
    obtain ⟨t, rfl⟩ := r
    refine call_enumerate_str fun h' he hit hsz hk => wpAny_pyIter_enum he ?_
    have I2 : Inv X pins σ H1 { s1 with heap := h' } := I1.kept (t' := s1.toks) hk
    refine ⟨s1.heap.objs.size + 1, [s1.heap.objs.size + 1, s1.heap.objs.size], _, _, H1, rfl, I2, turn_enumG (titer := fun i h => h.IsStrIter s1.heap.objs.size (strIterType z) z t i) ?_ ?_ ?_, ⟨⟨.none, he⟩, hit, Nat.succ_ne_self _, Nat.zero_le _⟩, fp_two I1, q⟩
    · exact fun i h h' ⟨o, a, b⟩ k => ⟨o, k o a, b⟩
    · exact fun i h ⟨o, a, b, d⟩ => ⟨o, a, fun v q => by rw [d] at q; cases q⟩
    · intro X' pins' σ' H' s' _ _ _ hc I' _
      refine ⟨[s1.heap.objs.size], _, _, Draws.text (A := X'.A.in1) (I'.ok.hd hc) s1.heap.objs.size z t, fun i h => h, fun i h x => x, by simp, ?_⟩
      rintro i u ⟨c, v, hcc, rfl⟩
      refine ⟨.str ⟨#[c]⟩, ⟨_, rfl⟩, ?_⟩
      unfold signsV
      rw [List.getElem?_map, Array.getElem?_toList, hcc]
      rfl
/-- over a tuple -/
def iEnumT (K : PySem.W.Frag) (ta : TA) : TI := fun σ H R => ta σ H fun vs H1 => ∃ a xs, vs = [.ref a] ∧ SqT K H1 a xs ∧ R (JG xs.length (fun i x => xs[i]? = some x) fun H => SqT K H a xs) H1
theorem meets_enum1 {v : Value} {o : Obj} {H : Heap → Prop} (B : Begins v o H) :
    Meets (Builtin.«enumerate.__new__» ⟨[.type "enumerate", v], []⟩) (fun _ R s => H s.heap ∧
      R (.ok (.ret (.ref (s.heap.push o).objs.size))) { s with heap := (s.heap.push o).push { cls := .type "enumerate", data := .fields #[.none, .bool false, .ref s.heap.objs.size, rawInt 0, .none, .none] } }) :=
  .of_wp fun prog w A R s h => by
    obtain ⟨hp, g, d, tk, os⟩ := s; obtain ⟨h1, h⟩ := h
    have hsub := sub_enumerate
    have q1 : ∀ {A' : Around} {E : Value → Shared → Prop} {Q : Value → Shared → Prop}, Q (.ref hp.objs.size) ⟨hp.push o, g, d, tk, os⟩ → wpAny (model prog w) A' (pyIter v) Q E ⟨hp, g, d, tk, os⟩ :=
      fun q => B.iter prog w _ _ ⟨hp, g, d, tk, os⟩ _ h1 q
    wp_walk using q1
    refine wpAny_stack_any fun st => wpAny_pure ?_
    split
    · rename_i c _ _ _ _ _
      cases (c == Value.type "enumerate")
      · wp_walk using q1
        exact ⟨_, rfl, h⟩
      · wp_walk using q1
        exact ⟨_, rfl, h⟩
    · wp_walk using q1
      exact ⟨_, rfl, h⟩
theorem call_enum1 {prog : Program} {w : World} {A : Around} {E : Value → Shared → Prop} {s : Shared} {v : Value} {o : Obj} {H : Heap → Prop} {Q : Value → Shared → Prop} (B : Begins v o H) (h1 : H s.heap)
    (h : ∀ h', IsEnum h' (s.heap.objs.size + 1) s.heap.objs.size 0 .none → h'.get? s.heap.objs.size = some o → h'.objs.size = s.heap.objs.size + 2 →
      (∀ b o, s.heap.get? b = some o → h'.get? b = some o) → Q (.ref (s.heap.objs.size + 1)) { s with heap := h' }) :
    wpAny (model prog w) A (call (.type "enumerate") [v]) Q E s := by
  refine callType_new F.called_enumerate (by decide) (F.typeCall_enumerate_1 _) (F.newCall_enumerate_1 _) (fun obj => F.args_object_init_2 obj _) F.entry_enumerate_new
    (meets_enum1 B) ⟨h1, ?_⟩
  have hz : (s.heap.push o).objs.size = s.heap.objs.size + 1 := Heap.size_push ..
  show _ ∧ _
  rw [hz]
  have he : IsEnum ((s.heap.push o).push { cls := .type "enumerate", data := .fields #[.none, .bool false, .ref s.heap.objs.size, rawInt 0, .none, .none] }) (s.heap.objs.size + 1) s.heap.objs.size 0 .none := by
    have := Heap.get?_push_size (s.heap.push o) (o := { cls := .type "enumerate", data := .fields #[.none, .bool false, .ref s.heap.objs.size, rawInt 0, .none, .none] }) rfl
    rw [hz] at this; exact this
  refine ⟨⟨_, he, rfl⟩, h _ he (Heap.get?_push_of_some _ (Heap.get?_push_size _ B.free)) (by rw [Heap.size_push, hz]) fun b o x => Heap.get?_push_of_some _ (Heap.get?_push_of_some _ x)⟩
theorem pi_enumT {X : Cx} {e : Expr} {ta : TA} {p pos tpos : Pos} {elts : List Expr} {kk : Nat} (hg : Gl X "enumerate") (hm : X.mg "enumerate" = none) (ha : PA X [e] ta) (hs : starEach [e] X.env = [(false, eval e X.env)] := by rfl) :
    PI X (.Tuple elts kk tpos) (.Call (.Name "enumerate" p) [e] [] pos) (iEnumT X.K ta) := by
  refine ⟨fun pins s σ H R I h => ?_⟩
  refine Call_ (ld_blt I hg hm boot_enumerate (PyProof.Rows.callWith_type1 (thn (ha.run pos pins s σ H _ I h) fun us s1 ⟨vs, H1, I1, r1, q1⟩ => ?_) hs rfl))
  obtain ⟨a, xs, ex, hq, q⟩ := q1
  subst ex
  cases r1 with
  | cons r rr =>
    cases rr
    cases r
    obtain ⟨its, rv, p', hz⟩ := I1.tuple hq
    have hal : a < s1.heap.objs.size := by obtain ⟨_, e, _⟩ := p'; exact Heap.lt_size e
    refine call_enum1 (begins_tuple a its.toArray) p' fun h' he hit hsz hk => wpAny_pyIter_enum he ?_
    have I2 : Inv X pins σ H1 { s1 with heap := h' } := I1.kept (t' := s1.toks) hk
    refine ⟨s1.heap.objs.size + 1, [s1.heap.objs.size + 1, s1.heap.objs.size], _, _, H1, rfl, I2, turn_enumG (titer := fun i h => h.IsTupleIter s1.heap.objs.size a i) ?_ ?_ ?_, ⟨⟨.none, he⟩, ⟨_, hit, rfl, rfl⟩, Nat.succ_ne_self _, Nat.zero_le _⟩, fp_two I1, q⟩
    · exact fun i h h' t k => t.at k
    · exact fun i h ⟨o, a, b, d⟩ => ⟨o, a, fun v q => by rw [d] at q; cases q⟩
    · intro X' pins' σ' H' s' _ _ hK hc I' hG
      rw [← hK] at hG
      obtain ⟨its', rv', p2, _⟩ := I'.tuple hG
      have hl := rv'.length
      have D := Draws.tuple (prog := X.prog) (w := X.w) (A := X'.A.in1) (I'.ok.hd hc) s1.heap.objs.size a (Nat.ne_of_lt hal) its'.toArray
      have e1 : its'.toArray.size = xs.length := by rw [List.size_toArray, hl]
      rw [e1] at D
      refine ⟨_, _, _, D, fun i h => ⟨h, p2⟩, fun i h x => x.1, ?_, ?_⟩
      · intro hm
        have e' : s1.heap.objs.size + 1 = s1.heap.objs.size ∨ s1.heap.objs.size + 1 = a := by simpa using hm
        rcases e' with e' | e'
        · exact Nat.succ_ne_self _ e'
        · rw [← e'] at hal
          exact Nat.lt_irrefl _ (Nat.lt_trans (Nat.lt_succ_self _) hal)
      · intro i u hu
        have hu' : its'[i]? = some u := by simpa using hu
        have hi : i < its'.length := (List.getElem?_eq_some_iff.mp hu').1
        have hx : xs[i]? = some xs[i] := List.getElem?_eq_getElem (by omega)
        obtain ⟨u2, h2, r2⟩ := rv'.get hx
        rw [hu'] at h2
        cases h2
        exact ⟨_, r2, hx⟩
/-! ### what is never reached -/
theorem ps_noway {X : Cx} {st : Stmt} : PS X st (fun _ _ _ => False) := ⟨fun _ _ _ _ _ _ h => h.elim⟩
theorem pe_noway {X : Cx} {e : Expr} : PE X e (fun _ _ _ => False) := ⟨fun _ _ _ _ _ _ h => h.elim⟩
/-! ### items with their places, walked -/
theorem walk_G {n : Nat} {Y : Nat → V → Prop} {G : Hp → Prop} : Walk (JG n Y G) n G (fun i H v H' => ∃ T x, v = .ref T ∧ H T = none ∧ H' = upd H T (.tup [.int (i : Nat), x]) ∧ Y i x) :=
  ⟨fun _ _ hi q => ⟨q, hi⟩, fun _ q => ⟨q, Nat.le_refl _⟩, fun _ _ _ _ _ _ y => y⟩
theorem for_G {n : Nat} {Y : Nat → V → Prop} {G : Hp → Prop} {g : TG} {tb : TS} {D : Ends} {σ : L2.St} {H : Hp} (Pv : Nat → L2.St → Hp → Prop) (h0 : Pv 0 σ H) (hG : ∀ i σ H, i ≤ n → Pv i σ H → G H)
    (hs : ∀ i σ H T x, i < n → Pv i σ H → H T = none → Y i x → g (.ref T) σ (upd H T (.tup [.int (i : Nat), x])) fun σ2 H2 => tb { D with nx := Pv (i + 1), ct := Pv (i + 1), bk := D.nx } σ2 H2) (hd : ∀ σ H, Pv n σ H → D.nx σ H) :
    ForAsk (JG n Y G) g tb D σ H := by
  refine ⟨fun i m σ H => m = n - i ∧ i ≤ n ∧ Pv i σ H, ⟨n, by simp, Nat.zero_le _, h0⟩, ?_⟩
  rintro i m σ H ⟨rfl, hi, p⟩
  have q := hG i σ H hi p
  by_cases hlt : i < n
  · refine .inr ⟨⟨q, hlt⟩, Pv (i + 1), fun σ' H' p' => ⟨n - (i + 1), by omega, rfl, hlt, p'⟩, fun v H' y => ?_⟩
    obtain ⟨T, x, rfl, hT, rfl, hy⟩ := y
    exact hs i σ H T x hlt p hT hy
  · have e : i = n := by omega
    subst e
    exact .inl ⟨⟨q, Nat.le_refl _⟩, hd σ H p⟩
/-! ### defs with a star -/
structure Cr (P : Program) (w : World) (K : PySem.W.Frag) (mg : Str → Option Value) (base : Heap) (CX : CXT) (k : Nat) (x : Str) (sp : Sp) : Prop where
  ex : ∃ (f : Addr), FnR P w K mg base CX k f sp ∧ mg x = some (.ref f) ∧ PySem.W.keepIn K (.ref f) = true
def tCallR (sp : Sp) (E : XK) (t : TA) : TE := fun σ H Q => t σ H fun vs H1 => sp vs H1 Q E
theorem pe_cr {X : Cx} {k j : Nat} {x : Str} {sp : Sp} {CX : CXT} {E : XK} {p pos : Pos} {e : Expr} {es : List Expr} {t : TA} (c : Cr X.prog X.w X.K X.mg X.base CX k x sp) (hr : Room j X.A) (hk : k ≤ j) (hg : Gl X x) (hx : Passes CX X E) (ha : PA X (e :: es) t)
    (hdb : (x == ("__debug__" : Str)) = false := by decide) (he : starEach (e :: es) X.env = (false, eval e X.env) :: starEach es X.env := by rfl) (hpl : (backTo pos (starEach es X.env)).any (·.1) = false := by rfl) :
    PE X (.Call (.Name x p) (e :: es) [] pos) (tCallR sp E t) := by
  obtain ⟨f, F, hm, kp⟩ := c.ex
  refine ⟨fun pins s σ H Q I h => ?_⟩
  refine wpAny_Call_Name_kw (ld_glob I hg hm ?_ hdb)
  exact PySem.W.callWith_K (h₀ := X.base) I.ok.mod.kin kp (thn (ha.run pos pins s σ H _ I h) fun us s1 ⟨vs, H1, I1, r, q⟩ => ⟨I1.kIn, wpAny_call (run_fnR (F.mono hk) hr hx I1 r q)⟩) he hpl
/-- def f( *v): what is handed in is a new tuple -/
theorem star0 {CX : CXT} {P : Program} {w : World} {K : PySem.W.Frag} {mg : Str → Option Value} {base : Heap} {k : Nat} {f : Addr} {fd : FuncData} {name qual : Str} {params : Arguments} {body : List Stmt} {scope : Scope} {N : List Str} {pv : Str} {sp : Sp}
    (F : FunD K name qual params body scope [] [] f fd) (S : FnScope N [pv] scope) (hCX : StX.CXUp CX)
    (hB : ∀ (kV doc pm : Value) (an : Option Addr) (cdv ct : Value) (rest : List Value), bindArgs (PySem.W.fnOf name qual params body scope .none kV doc pm an cdv ct) ⟨rest, []⟩ = (newTuple rest >>= fun t => pure [(pv, t)]))
    (hb : ∀ (cdv : Value) (A : Around) (outer : List Env) (s : Shared) (H : Hp) (vs : List V) (Q : VK) (E : XK), Room k (A.deeper (envOfC qual scope s.heap.objs.size f cdv)) → sp vs H Q E →
      ∃ t, PSs (cxOf CX P w K mg base N qual scope f cdv A outer s H E) body t ∧ t { nx := fun _ H' => Q .non H', rt := Q } (start N vs) H) :
    FnR P w K mg base CX (k + 1) f (fun vs H Q E => vs.length ≤ sizeLine ∧ ∀ p, H p = Option.none → sp [V.ref p] (upd H p (.tup vs)) Q E) := by
  obtain ⟨oc, od, dV, kV, doc, pm, an, cdv, ct, osl, rfl, lk, hcd, hD, _⟩ := F.ex
  have hdV : dV = .none := by
    rcases hD with ⟨_, e⟩ | ⟨e, _⟩
    · exact e
    · exact absurd rfl e
  subst hdV
  refine FnR.imp (StX.fn_star (ps := []) (pv := pv) lk hcd S hCX ?_ (hb cdv)) ?_
  · intro us rest hl
    cases us with
    | nil => exact hB kV doc pm an cdv ct rest
    | cons a us => cases hl
  · rintro vs H Q E ⟨h1, h2⟩
    exact ⟨[], vs, rfl, rfl, h1, h2⟩
theorem for_enT {K : PySem.W.Frag} {ta : TA} {g : TG} {tb : TS} {D : Ends} {σ : L2.St} {H : Hp} (h : ta σ H fun vs H1 => ∃ a xs, vs = [.ref a] ∧ SqT K H1 a xs ∧ ForAsk (JG xs.length (fun i x => xs[i]? = some x) fun H => SqT K H a xs) g tb D σ H1) : tFor (iEnumT K ta) g tb D σ H := h
theorem gpair {K : PySem.W.Frag} {n : Nat} {i j : Nat} {T : Addr} {x y : V} {σ : L2.St} {H : Hp} {Q : L2.St → Hp → Prop} (hn : n = 2) (h : H T = some (.tup [x, y])) (q : Q ((σ.set i (some x)).set j (some y)) H) : gTup K n (gCons (gName i) (gCons (gName j) gNil)) (.ref T) σ H Q :=
  ⟨T, [x, y], rfl, st_of h, hn.symm, x, [y], rfl, y, [], rfl, rfl, q⟩
theorem pg_tupK {X : Cx} {es : List Expr} {kk : Nat} {pos : Pos} {t : TGs} (K : PySem.W.Frag) (n : Nat) (h : PGs X es t) (hK : X.K = K := by rfl) (hc : X.calm = true := by rfl)
    (hn : (assignEach es X.env).length = n := by rfl) (hst : (assignEach es X.env).findIdx? (·.1) = none := by rfl) : PG X (.Tuple es kk pos) (gTup K n t) := by
  subst hK
  exact pg_tup hc h hn hst
theorem pi_enumK {X : Cx} {e : Expr} {ta : TA} {p pos tpos : Pos} {elts : List Expr} {kk : Nat} (K : PySem.W.Frag) (hg : Gl X "enumerate") (hm : X.mg "enumerate" = none) (ha : PA X [e] ta) (hK : X.K = K := by rfl) (hs : starEach [e] X.env = [(false, eval e X.env)] := by rfl) :
    PI X (.Tuple elts kk tpos) (.Call (.Name "enumerate" p) [e] [] pos) (iEnum K ta) := by
  subst hK
  exact pi_enum hg hm ha hs
/-! ### min, max of a list of ints -/
section
variable {X : Cx}
theorem call_minK (K : PySem.W.Frag) (hc : X.calm = true := by rfl) (hK : X.K = K := by rfl) : CallR X (.builtin "min") (rMin K) := by subst hK; exact cr_min hc
theorem call_maxK (K : PySem.W.Frag) (hc : X.calm = true := by rfl) (hK : X.K = K := by rfl) : CallR X (.builtin "max") (rMax K) := by subst hK; exact cr_max hc
end
section
variable {K : PySem.W.Frag} {H : Hp} {Q : VK} {a : Addr} {ns : List Int} {n : Int}
theorem minI (h : SqL K H a (ns.map V.int)) (hm : n ∈ ns) (hl : ∀ y ∈ ns, n ≤ y) (q : Q (.int n) H) : rMin K [.ref a] H Q := ⟨a, ns, rfl, h, List.length_pos_of_mem hm, fun m m1 m2 => by
  have e : m = n := Int.le_antisymm (m2 n hm) (hl m m1)
  rw [e]
  exact q⟩
theorem maxI (h : SqL K H a (ns.map V.int)) (hm : n ∈ ns) (hl : ∀ y ∈ ns, y ≤ n) (q : Q (.int n) H) : rMax K [.ref a] H Q := ⟨a, ns, rfl, h, List.length_pos_of_mem hm, fun m m1 m2 => by
  have e : m = n := Int.le_antisymm (hl m m1) (m2 n hm)
  rw [e]
  exact q⟩
end
/-! ### cuts of texts at both ends, texts without their outer signs -/
theorem mid_S (x : Str) {i j : Nat} (h : i ≤ j) (h2 : j ≤ x.length) : Txt.slice x (some (i : Int)) (some (j : Int)) = SX.S ((x.cps.toList.drop i).take (j - i)) := by
  have z := beq_iff_eq.mp (PyProof.Rows.slice_closesL (x := x) (i := (i : Int)) (j := (j : Int)) (by omega) (by omega) (by omega))
  rw [z]
  have e1 : ((j : Int) - (i : Int)).toNat = j - i := by omega
  rw [Int.toNat_natCast, e1]
/-- the sign at k is no ground -/
def ng (z : Str) (k : Nat) : Prop := ∃ c, z.cps.toList[k]? = some c ∧ c ≠ 46
def goesG : Nat → Bool := (".": Str).cps.contains
theorem goesG_is (c : Nat) : goesG c = decide (c = 46) := by
  show (#[46] : Array Nat).contains c = _
  simp [eq_comm]
def loG (z : Str) : Nat := stripLo goesG true z
def hiG (z : Str) : Nat := stripHi goesG true z 0
theorem getD_ng {z : Str} {k : Nat} (h : k < z.length) : goesG (z.cps.getD k 0) = false ↔ ng z k := by
  have h2 : k < z.cps.toList.length := by rw [str_len]; exact h
  rw [← PyProof.Rows.getD_list, List.getD_eq_getElem?_getD, List.getElem?_eq_getElem h2, Option.getD_some, goesG_is]
  refine ⟨fun e => ⟨_, List.getElem?_eq_getElem h2, of_decide_eq_false e⟩, fun ⟨c, e1, e2⟩ => ?_⟩
  rw [List.getElem?_eq_getElem h2] at e1
  cases e1
  exact decide_eq_false e2
theorem ng_lt {z : Str} {k : Nat} (h : ng z k) : k < z.length := by
  obtain ⟨c, e, _⟩ := h
  have := (List.getElem?_eq_some_iff.mp e).1
  rwa [str_len] at this
theorem lo_spec (z : Str) : (∀ k, ng z k → loG z ≤ k) ∧ loG z ≤ z.length ∧ (loG z < z.length → ng z (loG z)) := by
  obtain ⟨h1, h2, h3⟩ := PyProof.Rows.lo_facts goesG z
  refine ⟨fun k hk => ?_, h1, fun h => ?_⟩
  · by_cases e : loG z ≤ k
    · exact e
    · have := h2 k (by unfold loG at e; omega)
      rw [(getD_ng (ng_lt hk)).mpr hk] at this
      cases this
  · rcases h3 with h3 | h3
    · unfold loG at h
      omega
    · exact (getD_ng h).mp h3
theorem hi_spec (z : Str) : (∀ k, ng z k → k < hiG z) ∧ hiG z ≤ z.length ∧ (0 < hiG z → ng z (hiG z - 1)) := by
  obtain ⟨_, h1, h2, h3⟩ := PyProof.Rows.hi_facts goesG z 0 (Nat.zero_le _)
  refine ⟨fun k hk => ?_, h1, fun h => ?_⟩
  · by_cases e : k < hiG z
    · exact e
    · have := h2 k (by unfold hiG at e; omega) (ng_lt hk)
      rw [(getD_ng (ng_lt hk)).mpr hk] at this
      cases this
  · rcases h3 with h3 | h3
    · unfold hiG at h
      omega
    · exact (getD_ng (by unfold hiG at h ⊢; omega)).mp h3
theorem sub_len (z : Str) (i j : Nat) (h : j ≤ z.length) : (strSub z i j).length = j - i := by
  have e := PyProof.Rows.strSub_mk z i j
  rw [e]
  show (SX.S _).length = _
  rw [SX.S_len, List.length_take, List.length_drop, str_len]
  omega
theorem lstrip_len (z : Str) : (Txt.lstripChars z ".").length = z.length - loG z := by
  show (Txt.stripBy goesG true false z).length = _
  rw [PyProof.Rows.stripBy_eq]
  exact sub_len z _ _ (Nat.le_refl _)
theorem rstrip_len (z : Str) : (Txt.rstripChars z ".").length = hiG z := by
  show (Txt.stripBy goesG false true z).length = _
  rw [PyProof.Rows.stripBy_eq]
  have := sub_len z 0 (hiG z) (hi_spec z).2.1
  rw [Nat.sub_zero] at this
  exact this
theorem strip_nil (z : Str) : Txt.stripChars z "." = "" ↔ ∀ k, ¬ ng z k := by
  have hl : (Txt.stripChars z ".").length = stripHi goesG true z (loG z) - loG z := by
    show (Txt.stripBy goesG true true z).length = _
    rw [PyProof.Rows.stripBy_eq]
    exact sub_len z _ _ (PyProof.Rows.hi_facts goesG z _ (PyProof.Rows.lo_facts goesG z).1).2.1
  obtain ⟨g1, g2, g3, g4⟩ := PyProof.Rows.hi_facts goesG z (loG z) (PyProof.Rows.lo_facts goesG z).1
  have el : ∀ x : Str, x = "" ↔ x.length = 0 := fun x => by
    refine ⟨fun e => by rw [e]; rfl, fun e => ?_⟩
    have : x.cps.toList = [] := List.eq_nil_of_length_eq_zero (by rw [str_len]; exact e)
    rw [← SX.S_tl x, this]
    rfl
  rw [el, hl]
  refine ⟨fun e k hk => ?_, fun e => ?_⟩
  · have h1 := (lo_spec z).1 k hk
    have h2 := g3 k (by omega) (ng_lt hk)
    rw [(getD_ng (ng_lt hk)).mpr hk] at h2
    cases h2
  · obtain ⟨_, l2, l3⟩ := lo_spec z
    by_cases h : loG z < z.length
    · exact absurd (l3 h) (e _)
    · omega
end Z

set_option maxRecDepth 100000
set_option maxHeartbeats 4000000
namespace Z
open PySem PySem.Spec PySem.Builtin PySem.Builtin.Str PyProof.Rows L2
/-! ### zip( *texts) -/
/-- the zip at z over the texts xs, each begun at i -/
structure Zn (h : Heap) (z TI TO : Addr) (its : List Addr) (xs : List (Str × Nat)) (i : Nat) : Prop where
  zip : ∃ f0 fl, h.get? z = some { cls := .type "zip", dict := none, data := .fields #[f0, .bool fl, .bool false, .ref TI, .ref TO], slots := #[] } ∧ (f0 = .none ∨ ∃ a : Addr, f0 = rawInt a)
  ti : h.get? TI = some { cls := .type "tuple", data := .seq (its.map Value.ref).toArray }
  to : ∃ os : List Value, os.length = its.length ∧ h.get? TO = some { cls := .type "tuple", data := .seq os.toArray }
  it : Paired (fun a (x : Str × Nat) => h.IsStrIter a (strIterType x.1) x.1 x.2 i) its xs
/-- they stand apart -/
structure Zs (z TI TO : Addr) (its : List Addr) : Prop where
  zTI : z ≠ TI
  zTO : z ≠ TO
  TIO : TI ≠ TO
  zi : z ∉ its
  Ti : TI ∉ its
  Oi : TO ∉ its
  nd : its.Nodup
section
variable {prog : Program} {w : World} {A : Around} {E : Value → Shared → Prop} {s : Shared} {z TI TO : Addr} {its : List Addr} {xs : List (Str × Nat)} {i : Nat}
theorem free_or (hz : ∃ f0 fl, s.heap.get? z = some { cls := .type "zip", dict := none, data := .fields #[f0, .bool fl, .bool false, .ref TI, .ref TO], slots := #[] } ∧ (f0 = .none ∨ ∃ a : Addr, f0 = rawInt a)) {Q : Bool → Shared → Prop}
    (h : ∀ b h', (∃ f0 fl, h'.get? z = some { cls := .type "zip", dict := none, data := .fields #[f0, .bool fl, .bool false, .ref TI, .ref TO], slots := #[] } ∧ (f0 = .none ∨ ∃ a : Addr, f0 = rawInt a)) → Heap.SameBut z s.heap h' → Q b { s with heap := h' }) :
    wpAny (model prog w) A (Builtin.SmallTypes.ownedTupleIsFree (.ref z)) Q E s := by
  obtain ⟨f0, fl, hz, e⟩ := hz
  unfold Builtin.SmallTypes.ownedTupleIsFree
  rcases e with rfl | ⟨a, rfl⟩
  · refine wpAny_bind (wpAny_field hz rfl (x := .none) rfl (wpAny_pure ?_))
    exact h true s.heap ⟨_, _, hz, .inl rfl⟩ (Heap.SameBut.refl _ _)
  · refine wpAny_bind (wpAny_field hz rfl (x := rawInt a) rfl ?_)
    show wpAny _ _ (loadIfAlive ((a : Int).toNat) >>= _) _ _ _
    rw [Int.toNat_natCast]
    have hal : ∀ {Q : Option Obj → Shared → Prop}, Q (s.heap.get? a) s → wpAny (model prog w) A (loadIfAlive a) Q E s := fun q _ _ _ => q
    refine wpAny_bind (hal ?_)
    cases s.heap.get? a with
    | none =>
      simp only [Option.isNone_none, if_true]
      exact wpAny_pure (h true s.heap ⟨_, _, hz, .inr ⟨a, rfl⟩⟩ (Heap.SameBut.refl _ _))
    | some o =>
      simp only [Option.isNone_some, Bool.false_eq_true, if_false]
      refine wpAny_bind (wpAny_field hz rfl (x := .bool fl) rfl ?_)
      cases fl with
      | true =>
        rw [if_neg (show ¬ ((Value.bool true != Value.bool true) = true) from Bool.false_ne_true)]
        exact wpAny_pure (h false s.heap ⟨_, _, hz, .inr ⟨a, rfl⟩⟩ (Heap.SameBut.refl _ _))
      | false =>
        rw [if_pos (show (Value.bool false != Value.bool true) = true from rfl)]
        exact wpAny_bind (wpAny_setField_rec hz (by simp) fun h₁ hz₁ hs₁ => wpAny_pure (h false h₁ ⟨_, _, hz₁, .inr ⟨a, rfl⟩⟩ hs₁))
/-- what is drawn at i -/
abbrev Drawn (i : Nat) (vs : List Value) (xs : List (Str × Nat)) : Prop := Paired (fun v (x : Str × Nat) => ∃ c u, x.1.cps[i]? = some c ∧ v = Value.str ⟨#[c]⟩ u) vs xs
abbrev Its (h : Heap) (i : Nat) (its : List Addr) (xs : List (Str × Nat)) : Prop := Paired (fun a (x : Str × Nat) => h.IsStrIter a (strIterType x.1) x.1 x.2 i) its xs
theorem Its.keep {h h' : Heap} {i : Nat} : ∀ {its : List Addr} {xs : List (Str × Nat)}, Its h i its xs → (∀ a ∈ its, ∀ o, h.get? a = some o → h'.get? a = some o) → Its h' i its xs
  | _, _, .nil, _ => .nil
  | _, _, .cons a r, k => by
    obtain ⟨o, e, f⟩ := a
    exact .cons ⟨o, k _ List.mem_cons_self o e, f⟩ (Its.keep r fun b m => k b (List.mem_cons_of_mem _ m))
theorem paired_snoc {α β : Type} {F : α → β → Prop} {l : List α} {m : List β} {a : α} {b : β} (h : Paired F l m) (g : F a b) : Paired F (l ++ [a]) (m ++ [b]) := by
  induction h with
  | nil => exact .cons g .nil
  | cons x _ ih => exact .cons x ih
/-- how far the draws of one turn are -/
structure Lp (s : Shared) (h : Heap) (z TI TO : Addr) (its : List Addr) (xs : List (Str × Nat)) (i : Nat) (its1 its2 : List Addr) (xs1 xs2 : List (Str × Nat)) (vs : List Value) (oz : Obj) : Prop where
  ei : its = its1 ++ its2
  ex : xs = xs1 ++ xs2
  dr : Drawn i vs xs1
  i1 : Its h (i + 1) its1 xs1
  i2 : Its h i its2 xs2
  sz : h.objs.size = s.heap.objs.size
  zip : h.get? z = some oz
  kp : ∀ c o, c ≠ z → c ≠ TO → c ∉ its1 → s.heap.get? c = some o → h.get? c = some o
  to : ∃ os : List Value, os.length = its.length ∧ os.take its1.length = os.take its1.length ∧ h.get? TO = some { cls := .type "tuple", data := .seq os.toArray }
/-- one draw more -/
theorem Lp.draw {h : Heap} {tk : Nat} {its1 its2 : List Addr} {xs1 xs2 : List (Str × Nat)} {vs : List Value} {oz : Obj} {a : Addr} {Q : Value → Shared → Prop} (hh : A.handled = none) (S : Zs z TI TO its) (L : Lp s h z TI TO its xs i its1 (a :: its2) xs1 xs2 vs oz) (hlt : ∀ x ∈ xs, i < x.1.cps.size)
    (hQ : ∀ v x xs2' h' tk', xs2 = x :: xs2' → Lp s h' z TI TO its xs i (its1 ++ [a]) its2 (xs1 ++ [x]) xs2' (vs ++ [v]) oz → Heap.SameBut a h h' → Q v { s with heap := h', toks := tk' }) :
    wpAny (model prog w) A (Builtin.SmallTypes.nextOf (.ref a)) Q E { s with heap := h, toks := tk } := by
  obtain ⟨ei, ex, dr, i1, i2, sz, hz, kp, os, ho1, ho2, ho3⟩ := L
  cases i2 with
  | cons st i2 =>
    rename_i x xs2
    have ma : a ∈ its := by rw [ei]; exact List.mem_append_right _ List.mem_cons_self
    have za : z ≠ a := fun e => S.zi (e ▸ ma)
    have Oa : TO ≠ a := fun e => S.Oi (e ▸ ma)
    have nd := S.nd
    rw [ei] at nd
    obtain ⟨nd1, nd2, nd3⟩ := List.nodup_append.mp nd
    have hx : x ∈ xs := by rw [ex]; exact List.mem_append_right _ List.mem_cons_self
    refine (Draws.text (prog := prog) (w := w) (A := A) hh a x.1 x.2).item i _ _ _ (hlt x hx) st fun v h' tk' hv st' sb => ?_
    replace sb : Heap.SameBut a h h' := sb
    have kb : ∀ c o, c ≠ a → h.get? c = some o → h'.get? c = some o := fun c o n e => sb.extBut c o n e
    refine hQ v x xs2 h' tk' rfl ⟨by rw [ei, List.append_assoc]; rfl, by rw [ex, List.append_assoc]; rfl, paired_snoc dr hv, paired_snoc (Its.keep i1 fun c m o e => kb c o (fun q => nd3 c m a List.mem_cons_self q) e) st', Its.keep i2 fun c m o e => kb c o (fun q => ?_) e, sb.1.trans sz, kb _ _ za hz, fun c o n1 n2 n3 e => kb c o (fun q => n3 (by rw [q]; simp)) (kp c o n1 n2 (fun q => n3 (List.mem_append_left _ q)) e), os, ho1, rfl, kb _ _ Oa ho3⟩ sb
    rw [q] at m
    exact (List.nodup_cons.mp nd2).1 m
/-- the held tuple is put otherwise -/
theorem Lp.put {h h' : Heap} {its1 its2 : List Addr} {xs1 xs2 : List (Str × Nat)} {vs : List Value} {oz : Obj} {os : List Value} (S : Zs z TI TO its) (L : Lp s h z TI TO its xs i its1 its2 xs1 xs2 vs oz) (sb : Heap.SameBut TO h h') (ho : os.length = its.length)
    (hT : h'.get? TO = some { cls := .type "tuple", data := .seq os.toArray }) : Lp s h' z TI TO its xs i its1 its2 xs1 xs2 vs oz := by
  obtain ⟨ei, ex, dr, i1, i2, sz, hz, kp, _⟩ := L
  have kb : ∀ c o, c ≠ TO → h.get? c = some o → h'.get? c = some o := fun c o n e => sb.extBut c o n e
  have m1 : ∀ a ∈ its1, a ≠ TO := fun a m q => S.Oi (by rw [ei, ← q]; exact List.mem_append_left _ m)
  have m2 : ∀ a ∈ its2, a ≠ TO := fun a m q => S.Oi (by rw [ei, ← q]; exact List.mem_append_right _ m)
  exact ⟨ei, ex, dr, Its.keep i1 fun a m o e => kb a o (m1 a m) e, Its.keep i2 fun a m o e => kb a o (m2 a m) e, sb.1.trans sz, kb _ _ S.zTO hz, fun c o n1 n2 n3 e => kb c o n2 (kp c o n1 n2 n3 e), os, ho, rfl, hT⟩
theorem zipN_item {Q : Value → Shared → Prop} (hh : A.handled = none) (S : Zs z TI TO its) (N : Zn s.heap z TI TO its xs i) (hlt : ∀ x ∈ xs, i < x.1.cps.size) (hne : its ≠ []) (hmany : its.length ≤ 100000)
    (hQ : ∀ vs h' tk, Drawn i vs xs → Zn h' z TI TO its xs (i + 1) → h'.get? s.heap.objs.size = some { cls := .type "tuple", data := .seq vs.toArray } → h'.objs.size = s.heap.objs.size + 1 →
      (∀ c o, c ≠ z → c ≠ TO → c ∉ its → s.heap.get? c = some o → h'.get? c = some o) → Q (.ref s.heap.objs.size) { s with heap := h', toks := tk }) :
    wpAny (model prog w) A (Builtin.«zip.__next__» ⟨[.ref z], []⟩) (fun fin s' => ∃ v, fin = .done (.ret v) ∧ Q v s') E s := by
  obtain ⟨f0, fl, hz, hf⟩ := N.zip
  show wpAny _ _ (field (.ref z) 2 >>= _) _ _ _
  refine wpAny_bind (wpAny_field hz rfl (x := .bool false) rfl ?_)
  show wpAny _ _ (field (.ref z) 3 >>= _) _ _ _
  refine wpAny_bind (wpAny_field hz rfl (x := .ref TI) rfl ?_)
  refine wpAny_bind (wpAny_seqItems N.ti rfl ?_)
  have he : ((its.map Value.ref).toArray.isEmpty) = false := by
    cases its with
    | nil => exact absurd rfl hne
    | cons a r => rfl
  simp only [he, Bool.false_eq_true, if_false]
  refine wpAny_bind (free_or N.zip fun b h1 hz1 hs1 => ?_)
  replace hs1 : Heap.SameBut z s.heap h1 := hs1
  obtain ⟨g0, gl, hg, hg2⟩ := hz1
  have hTO1 : ∃ os : List Value, os.length = its.length ∧ os.take 0 = os.take 0 ∧ h1.get? TO = some { cls := .type "tuple", data := .seq os.toArray } := by
    obtain ⟨os, o1, o2⟩ := N.to
    exact ⟨os, o1, rfl, hs1.extBut _ _ (Ne.symm S.zTO) o2⟩
  have L0 : Lp s h1 z TI TO its xs i [] its [] xs [] _ := ⟨rfl, rfl, .nil, .nil, Its.keep N.it fun a m o e => hs1.extBut _ _ (fun q => S.zi (q ▸ m)) e, hs1.1, hg, fun c o n1 _ _ e => hs1.extBut _ _ n1 e, hTO1⟩
  cases b with
  | true =>
    simp only [if_true]
    refine wpAny_bind (wpAny_rule ?_)
    refine wpAny_bind (wpAny_field hg rfl (x := .ref TO) rfl ?_)
    refine wpAny_bind (wpAny_setField_rec hg (by simp) fun h2 hz2 hs2 => ?_)
    replace hz2 : h2.get? z = some { cls := .type "zip", dict := none, data := .fields #[.ellipsis, .bool gl, .bool false, .ref TI, .ref TO], slots := #[] } := hz2
    replace hs2 : Heap.SameBut z h1 h2 := hs2
    obtain ⟨os0, oo1, _, oo2⟩ := hTO1
    have hTO2 : h2.get? TO = some { cls := .type "tuple", data := .seq os0.toArray } := hs2.extBut _ _ (Ne.symm S.zTO) oo2
    have L1 : Lp s h2 z TI TO its xs i [] its [] xs [] _ := ⟨rfl, rfl, .nil, .nil, Its.keep L0.i2 fun a m o e => hs2.extBut _ _ (fun q => S.zi (q ▸ m)) e, hs2.1.trans hs1.1, hz2, fun c o n1 n2 n3 e => hs2.extBut _ _ n1 (L0.kp c o n1 n2 n3 e), os0, oo1, rfl, hTO2⟩
    refine wpAny_bind ?_
    refine wpAny_forIn_list (s := { s with heap := h2 }) _ (fun rest b s' => ∃ its1 its2 xs1 xs2 vs hB tk os, rest = (its2.map Value.ref).zipIdx its1.length ∧ b = (none, ()) ∧ Lp s hB z TI TO its xs i its1 its2 xs1 xs2 vs { cls := .type "zip", dict := none, data := .fields #[.ellipsis, .bool gl, .bool false, .ref TI, .ref TO], slots := #[] } ∧ s' = { s with heap := hB, toks := tk } ∧
      os.length = its.length ∧ os.take its1.length = vs ∧ hB.get? TO = some { cls := .type "tuple", data := .seq os.toArray }) _ ?_ ?_ _ _ ⟨[], its, [], xs, [], h2, s.toks, os0, rfl, rfl, L1, rfl, oo1, rfl, hTO2⟩
    · rintro v rest b s' ⟨its1, its2, xs1, xs2, vs, hB, tk, os, e1, rfl, L, rfl, lo, tko, hT⟩
      cases its2 with
      | nil => cases e1
      | cons a its2 =>
        rw [List.map_cons, List.zipIdx_cons] at e1
        cases e1
        refine wpAny_bind (wpAny_onRaise ?_)
        show wpAny _ _ (Builtin.SmallTypes.nextOf (.ref a) >>= _) _ _ _
        refine wpAny_bind (L.draw hh S hlt fun u x xs2' h' tk' ex L' sb => wpAny_pure ?_)
        have ma : a ∈ its := by rw [L.ei]; simp
        have hT' : h'.get? TO = some { cls := .type "tuple", data := .seq os.toArray } := sb.extBut _ _ (fun q => S.Oi (by rw [q]; exact ma)) hT
        have hlz : os.toArray.size ≤ sizeLine := line5 (by rw [List.size_toArray]; omega)
        refine wpAny_bind (wpAny_seqItems (s := { s with heap := h', toks := tk' }) hT' rfl ?_)
        refine wpAny_bind (wpAny_updateSeq (s := { s with heap := h', toks := tk' }) hT' rfl ?_ hlz (by rw [Array.size_setIfInBounds]; omega))
        refine wpAny_bind (wpAny_letGo (wpAny_pure ?_))
        have li := L.ei
        have l1 : its1.length < os.length := by rw [lo, li, List.length_append, List.length_cons]; omega
        have hU : (h'.update TO (Obj.mapSeq fun x_2 => x_2.setIfInBounds its1.length u)).get? TO = some { cls := .type "tuple", data := .seq (os.set its1.length u).toArray } := by
          rw [Heap.get?_update_self _ hT' rfl]
          simp [Obj.mapSeq]
        refine ⟨its1 ++ [a], its2, xs1 ++ [x], xs2', vs ++ [u], _, tk', os.set its1.length u, ?_, rfl, L'.put S (Heap.SameBut.update ..) (by rw [List.length_set]; exact lo) hU, rfl, by rw [List.length_set]; exact lo, ?_, hU⟩
        · rw [List.length_append]
          rfl
        · rw [List.length_append, List.length_singleton, List.take_add_one, List.getElem?_set_self (by omega), List.take_set_of_le (Nat.le_refl _), tko]
          rfl
    · rintro b s' ⟨its1, its2, xs1, xs2, vs, hB, tk, os, e1, rfl, L, rfl, lo, tko, hT⟩
      have e2 : its2 = [] := by
        cases its2 with
        | nil => rfl
        | cons a r => cases e1
      subst e2
      have e3 : xs2 = [] := by
        cases L.i2
        rfl
      subst e3
      obtain ⟨ei, ex, dr, i1, i2, sz, hz', kp, _⟩ := L
      rw [List.append_nil] at ei ex
      subst ei ex
      rw [← lo, List.take_length] at tko
      subst tko
      have hvl : os.toArray.toList.length ≤ sizeLine := line5 (by simp; omega)
      show wpAny _ _ (seqItems? (.ref TO) >>= _) _ _ _
      refine wpAny_bind (wpAny_seqItems (s := { s with heap := hB, toks := tk }) hT rfl ?_)
      refine wpAny_bind (wpAny_newTuple ?_ hvl)
      have hp : (hB.push { cls := .type "tuple", data := .seq os.toArray.toList.toArray }).get? hB.objs.size = some { cls := .type "tuple", data := .seq os.toArray.toList.toArray } := Heap.get?_push_size _ rfl
      have hz4 : (hB.push { cls := .type "tuple", data := .seq os.toArray.toList.toArray }).objs.size = hB.objs.size + 1 := Heap.size_push ..
      have up : ∀ c o, hB.get? c = some o → (hB.push { cls := .type "tuple", data := .seq os.toArray.toList.toArray }).get? c = some o := fun c o e => Heap.get?_push_of_some _ e
      show wpAny _ _ (Builtin.SmallTypes.ownedTupleHandOut (.ref z) (.ref hB.objs.size) >>= _) _ _ { s with heap := hB.push { cls := .type "tuple", data := .seq os.toArray.toList.toArray }, toks := tk }
      revert hp hz4 up
      generalize hB.push { cls := .type "tuple", data := .seq os.toArray.toList.toArray } = hC
      intro hp hz4 up
      have hzlt : z < hB.objs.size := Heap.lt_size hz'
      refine wpAny_bind ?_
      unfold Builtin.SmallTypes.ownedTupleHandOut
      refine wpAny_bind (wpAny_setField_rec (s := { s with heap := hC, toks := tk }) (up _ _ hz') (by simp) fun h₇ hz₇ hs₇ => ?_)
      replace hz₇ : h₇.get? z = some { cls := .type "zip", dict := none, data := .fields #[rawInt hB.objs.size, .bool gl, .bool false, .ref TI, .ref TO], slots := #[] } := hz₇
      replace hs₇ : Heap.SameBut z hC h₇ := hs₇
      refine wpAny_setField_rec (s := { s with heap := h₇, toks := tk }) hz₇ (by simp) fun h₈ hz₈ hs₈ => ?_
      replace hz₈ : h₈.get? z = some { cls := .type "zip", dict := none, data := .fields #[rawInt hB.objs.size, .bool false, .bool false, .ref TI, .ref TO], slots := #[] } := hz₈
      replace hs₈ : Heap.SameBut z h₇ h₈ := hs₈
      have up8 : ∀ c o, c ≠ z → hB.get? c = some o → h₈.get? c = some o := fun c o n e => hs₈.extBut _ _ n (hs₇.extBut _ _ n (up c o e))
      have hT8 : h₈.get? hB.objs.size = some { cls := .type "tuple", data := .seq os.toArray.toList.toArray } := hs₈.extBut _ _ (Nat.ne_of_gt hzlt) (hs₇.extBut _ _ (Nat.ne_of_gt hzlt) hp)
      have hz8 : h₈.objs.size = hB.objs.size + 1 := by rw [hs₈.1, hs₇.1, hz4]
      rw [sz] at hT8 hz8
      refine wpAny_pure ⟨_, rfl, ?_⟩
      show Q (.ref hB.objs.size) _
      rw [sz]
      refine hQ os h₈ tk dr ⟨⟨_, _, hz₈, .inr ⟨_, rfl⟩⟩, up8 _ _ (Ne.symm S.zTI) (kp _ _ (Ne.symm S.zTI) S.TIO S.Ti N.ti), ⟨os, lo, up8 _ _ (Ne.symm S.zTO) hT⟩, Its.keep i1 fun a m o e => up8 _ _ (fun q => S.zi (q ▸ m)) e⟩ (by simpa using hT8) hz8 fun c o n1 n2 n3 e => up8 _ _ n1 (kp c o n1 n2 n3 e)
  | false =>
    simp only [Bool.false_eq_true, if_false]
    refine wpAny_bind ?_
    rw [← Array.forIn_toList]
    refine wpAny_forIn_list (s := { s with heap := h1 }) _ (fun rest b s' => ∃ its1 its2 xs1 xs2 vs hB tk, rest = its2.map Value.ref ∧ b = (none, vs.toArray) ∧ Lp s hB z TI TO its xs i its1 its2 xs1 xs2 vs { cls := .type "zip", dict := none, data := .fields #[g0, .bool gl, .bool false, .ref TI, .ref TO], slots := #[] } ∧ s' = { s with heap := hB, toks := tk }) _ ?_ ?_ _ _ ⟨[], its, [], xs, [], h1, s.toks, rfl, rfl, L0, rfl⟩
    · rintro v rest b s' ⟨its1, its2, xs1, xs2, vs, hB, tk, e1, rfl, L, rfl⟩
      cases its2 with
      | nil => cases e1
      | cons a its2 =>
        cases e1
        refine wpAny_bind (wpAny_holding ?_)
        show wpAny _ _ (Builtin.SmallTypes.nextOf (.ref a) >>= _) _ _ _
        refine wpAny_bind (L.draw hh S hlt fun u x xs2' h' tk' ex L' sb => wpAny_pure ?_)
        refine wpAny_pure ?_
        exact ⟨its1 ++ [a], its2, xs1 ++ [x], xs2', vs ++ [u], h', tk', rfl, by simp, L', rfl⟩
    · rintro b s' ⟨its1, its2, xs1, xs2, vs, hB, tk, e1, rfl, L, rfl⟩
      have e2 : its2 = [] := by
        cases its2 with
        | nil => rfl
        | cons a r => cases e1
      subst e2
      have e3 : xs2 = [] := by
        cases L.i2
        rfl
      subst e3
      obtain ⟨ei, ex, dr, i1, i2, sz, hz', kp, os, ho1, ho2, ho3⟩ := L
      rw [List.append_nil] at ei ex
      subst ei ex
      have hvl : vs.length ≤ sizeLine := by
        have h1 := dr.length
        have h2 := i1.length
        exact line5 (by omega)
      show wpAny _ _ (newTuple vs.toArray.toList >>= _) _ _ _
      refine wpAny_bind (wpAny_newTuple ?_ (by simpa using hvl))
      refine wpAny_pure ⟨_, rfl, ?_⟩
      have hp : (hB.push { cls := .type "tuple", data := .seq vs.toArray.toList.toArray }).get? hB.objs.size = some { cls := .type "tuple", data := .seq vs.toArray.toList.toArray } := Heap.get?_push_size _ rfl
      have hz4 : (hB.push { cls := .type "tuple", data := .seq vs.toArray.toList.toArray }).objs.size = hB.objs.size + 1 := Heap.size_push ..
      have up : ∀ c o, hB.get? c = some o → (hB.push { cls := .type "tuple", data := .seq vs.toArray.toList.toArray }).get? c = some o := fun c o e => Heap.get?_push_of_some _ e
      revert hp hz4 up
      generalize hB.push { cls := .type "tuple", data := .seq vs.toArray.toList.toArray } = hC
      intro hp hz4 up
      rw [sz] at hp hz4
      show Q (.ref hB.objs.size) _
      rw [sz]
      refine hQ vs hC tk dr ⟨⟨g0, gl, up _ _ hz', hg2⟩, up _ _ (kp _ _ (Ne.symm S.zTI) S.TIO S.Ti N.ti), ⟨os, ho1, up _ _ ho3⟩, Its.keep i1 fun a m o e => up _ _ e⟩ (by simpa using hp) hz4 fun c o n1 n2 n3 e => up _ _ (kp c o n1 n2 n3 e)
/-- texts, each with its token, as values -/
abbrev txts (xs : List (Str × Nat)) : List Value := xs.map fun x => Value.str x.1 x.2
theorem zip_tc (args : List Value) : checkTypeCall "zip" ⟨args, []⟩ = pure () := by kernel_rfl
theorem zip_nc (a : Value) (args : List Value) : checkBuiltinCall "zip.__new__" ⟨.type "zip" :: a :: args, []⟩ = pure () := by kernel_rfl
theorem zip_ao (obj : Value) (args : List Value) : argsOk "object.__init__" ⟨obj :: args, []⟩ := by unfold argsOk; kernel_rfl
/-- the iterators of texts, begun one behind another -/
def itO (x : Str × Nat) : Obj := { cls := .type (strIterType x.1), data := .fields #[.str x.1 x.2, .int 0 0] }
def pushAll : Heap → List (Str × Nat) → Heap
  | h, [] => h
  | h, x :: xs => pushAll (h.push (itO x)) xs
theorem pushAll_size : ∀ (xs : List (Str × Nat)) (h : Heap), (pushAll h xs).objs.size = h.objs.size + xs.length
  | [], h => rfl
  | x :: xs, h => by
    rw [pushAll, pushAll_size xs, Heap.size_push, List.length_cons]
    omega
theorem pushAll_keep : ∀ (xs : List (Str × Nat)) (h : Heap) (c : Addr) (o : Obj), h.get? c = some o → (pushAll h xs).get? c = some o
  | [], _, _, _, e => e
  | x :: xs, h, c, o, e => pushAll_keep xs _ c o (Heap.get?_push_of_some _ e)
theorem pushAll_its : ∀ (xs : List (Str × Nat)) (h : Heap), Its (pushAll h xs) 0 (List.range' h.objs.size xs.length) xs
  | [], _ => .nil
  | x :: xs, h => by
    refine .cons ⟨itO x, pushAll_keep xs _ _ _ (Heap.get?_push_size _ rfl), rfl, rfl⟩ ?_
    have z := pushAll_its xs (h.push (itO x))
    rw [Heap.size_push] at z
    exact z
theorem pushAll_snoc : ∀ (xs : List (Str × Nat)) (h : Heap) (x : Str × Nat), pushAll h (xs ++ [x]) = (pushAll h xs).push (itO x)
  | [], _, _ => rfl
  | y :: xs, h, x => by
    show pushAll (h.push (itO y)) (xs ++ [x]) = _
    rw [pushAll_snoc xs]
    rfl
theorem iterAll_txts (xs : List (Str × Nat)) {Q : List Value → Shared → Prop} {s : Shared} (hQ : Q ((List.range' s.heap.objs.size xs.length).map Value.ref) { s with heap := pushAll s.heap xs }) :
    wpAny (model prog w) A (Builtin.SmallTypes.iterAll (txts xs)) Q E s := by
  unfold Builtin.SmallTypes.iterAll
  simp only [pure_bind, bind_assoc]
  refine wpAny_bind ?_
  refine wpAny_forIn_list _ (fun rest b s' => ∃ xs1 xs2, xs = xs1 ++ xs2 ∧ rest = txts xs2 ∧ b = ((List.range' s.heap.objs.size xs1.length).map Value.ref).toArray ∧ s' = { s with heap := pushAll s.heap xs1 }) _ ?_ ?_ _ _ ⟨[], xs, rfl, rfl, rfl, rfl⟩
  · rintro v rest b s' ⟨xs1, xs2, e, e1, rfl, rfl⟩
    cases xs2 with
    | nil => cases e1
    | cons x xs2 =>
      cases e1
      refine wpAny_bind (wpAny_holding ?_)
      refine (begins_text x.1 x.2).iter prog w A _ _ _ trivial (wpAny_pure ?_)
      refine ⟨xs1 ++ [x], xs2, by rw [e, List.append_assoc]; rfl, rfl, ?_, ?_⟩
      · show (((List.range' s.heap.objs.size xs1.length).map Value.ref).toArray.push (.ref (pushAll s.heap xs1).objs.size)) = _
        rw [pushAll_size, List.length_append, List.length_singleton, List.range'_concat, List.map_append]
        simp
      · rw [pushAll_snoc]
        rfl
  · rintro b s' ⟨xs1, xs2, e, e1, rfl, rfl⟩
    have e2 : xs2 = [] := by
      cases xs2 with
      | nil => rfl
      | cons a r => cases e1
    subst e2
    rw [List.append_nil] at e
    subst e
    refine wpAny_pure ?_
    simpa using hQ
def zT1 (h : Heap) (xs : List (Str × Nat)) : Heap := (pushAll h xs).push { cls := .type "tuple", data := .seq ((List.range' h.objs.size xs.length).map Value.ref).toArray }
def zT2 (h : Heap) (xs : List (Str × Nat)) : Heap := (zT1 h xs).push { cls := .type "tuple", data := .seq (((List.range' h.objs.size xs.length).map Value.ref).map fun _ => Value.none).toArray }
def zT3 (h : Heap) (xs : List (Str × Nat)) : Heap := (zT2 h xs).push { cls := .type "zip", data := .fields #[.none, .bool false, .bool false, .ref (pushAll h xs).objs.size, .ref (zT1 h xs).objs.size] }
theorem meets_zipN (x : Str × Nat) (xs : List (Str × Nat)) :
    Meets (Builtin.«zip.__new__» ⟨.type "zip" :: txts (x :: xs), []⟩) (fun _ R s => (x :: xs).length ≤ 100000 ∧ R (.ok (.ret (.ref (zT2 s.heap (x :: xs)).objs.size))) { s with heap := zT3 s.heap (x :: xs) }) :=
  .of_wp fun prog w A R s h => by
    obtain ⟨hp, g, d, tk, os⟩ := s
    obtain ⟨hl, h⟩ := h
    have hsub := sub_zip
    have q1 : ∀ {A' : Around} {E : Value → Shared → Prop} {Q : List Value → Shared → Prop}, Q ((List.range' hp.objs.size (x :: xs).length).map Value.ref) ⟨pushAll hp (x :: xs), g, d, tk, os⟩ → wpAny (model prog w) A' (Builtin.SmallTypes.iterAll (txts (x :: xs))) Q E ⟨hp, g, d, tk, os⟩ :=
      fun q => iterAll_txts (x :: xs) (s := ⟨hp, g, d, tk, os⟩) q
    generalize txts (x :: xs) = vs at q1 ⊢
    have hsz : ((List.range' hp.objs.size (x :: xs).length).map Value.ref).length ≤ sizeLine := by
      rw [List.length_map, List.length_range']
      exact line5 hl
    generalize his : (List.range' hp.objs.size (x :: xs).length).map Value.ref = is at q1 hsz
    wp_walk using q1
    subst his
    exact ⟨_, rfl, h⟩
/-- zip( *texts): its new cells -/
theorem call_zipN {Q : Value → Shared → Prop} (x : Str × Nat) (xs : List (Str × Nat)) (hl : (x :: xs).length ≤ 100000)
    (h : ∀ its z TI TO h', Zs z TI TO its → its ≠ [] → its.length = (x :: xs).length → Zn h' z TI TO its (x :: xs) 0 → (∀ a, a ∈ z :: TI :: TO :: its → s.heap.objs.size ≤ a) → (∀ c o, s.heap.get? c = some o → h'.get? c = some o) → Q (.ref z) { s with heap := h' }) :
    wpAny (model prog w) A (call (.type "zip") (txts (x :: xs))) Q E s := by
  refine callType_new F.called_zip (by decide) (zip_tc _) (zip_nc _ _) (fun obj => zip_ao obj _) F.entry_zip_new (meets_zipN x xs) ⟨hl, ?_⟩
  have hne : x :: xs ≠ [] := fun e => nomatch e
  generalize x :: xs = ys at h hne ⊢
  have e0 := pushAll_size ys s.heap
  have e1 : (zT1 s.heap ys).objs.size = s.heap.objs.size + ys.length + 1 := by unfold zT1; rw [Heap.size_push, e0]
  have e2 : (zT2 s.heap ys).objs.size = s.heap.objs.size + ys.length + 2 := by unfold zT2; rw [Heap.size_push, e1]
  have up1 : ∀ c o, (pushAll s.heap ys).get? c = some o → (zT1 s.heap ys).get? c = some o := fun c o e => Heap.get?_push_of_some _ e
  have up2 : ∀ c o, (zT1 s.heap ys).get? c = some o → (zT2 s.heap ys).get? c = some o := fun c o e => Heap.get?_push_of_some _ e
  have up3 : ∀ c o, (zT2 s.heap ys).get? c = some o → (zT3 s.heap ys).get? c = some o := fun c o e => Heap.get?_push_of_some _ e
  have gZ : (zT3 s.heap ys).get? (zT2 s.heap ys).objs.size = some { cls := .type "zip", data := .fields #[.none, .bool false, .bool false, .ref (pushAll s.heap ys).objs.size, .ref (zT1 s.heap ys).objs.size] } := Heap.get?_push_size _ rfl
  have gO : (zT3 s.heap ys).get? (zT1 s.heap ys).objs.size = some { cls := .type "tuple", data := .seq (((List.range' s.heap.objs.size ys.length).map Value.ref).map fun _ => Value.none).toArray } := up3 _ _ (Heap.get?_push_size _ rfl)
  have gT : (zT3 s.heap ys).get? (pushAll s.heap ys).objs.size = some { cls := .type "tuple", data := .seq ((List.range' s.heap.objs.size ys.length).map Value.ref).toArray } := up3 _ _ (up2 _ _ (Heap.get?_push_size _ rfl))
  have hr : ∀ a ∈ List.range' s.heap.objs.size ys.length, s.heap.objs.size ≤ a ∧ a < s.heap.objs.size + ys.length := fun a m => by
    rw [List.mem_range'_1] at m
    exact m
  have dz : (zT2 s.heap ys).objs.size ≠ (pushAll s.heap ys).objs.size := by rw [e2, e0]; omega
  have dO : (zT2 s.heap ys).objs.size ≠ (zT1 s.heap ys).objs.size := by rw [e2, e1]; omega
  have dT : (pushAll s.heap ys).objs.size ≠ (zT1 s.heap ys).objs.size := by rw [e0, e1]; omega
  have hS : Zs (zT2 s.heap ys).objs.size (pushAll s.heap ys).objs.size (zT1 s.heap ys).objs.size (List.range' s.heap.objs.size ys.length) :=
    ⟨dz, dO, dT, fun m => by have := (hr _ m).2; omega, fun m => by have := (hr _ m).2; omega, fun m => by have := (hr _ m).2; omega, List.nodup_range'⟩
  have hN : Zn (zT3 s.heap ys) (zT2 s.heap ys).objs.size (pushAll s.heap ys).objs.size (zT1 s.heap ys).objs.size (List.range' s.heap.objs.size ys.length) ys 0 :=
    ⟨⟨_, _, gZ, .inl rfl⟩, gT, ⟨_, by rw [List.length_map, List.length_map], gO⟩, Its.keep (pushAll_its ys s.heap) fun a _ o e => up3 _ _ (up2 _ _ (up1 _ _ e))⟩
  refine ⟨⟨_, gZ, rfl⟩, h _ _ _ _ _ hS (fun e => hne ?_) (List.length_range' ..) hN (fun a m => ?_) fun c o e => up3 _ _ (up2 _ _ (up1 _ _ (pushAll_keep ys _ c o e)))⟩
  · have l : (List.range' s.heap.objs.size ys.length).length = 0 := by rw [e]; rfl
    rw [List.length_range'] at l
    exact List.eq_nil_of_length_eq_zero l
  · rcases List.mem_cons.mp m with e | m
    · rw [e, e2]
      omega
    rcases List.mem_cons.mp m with e | m
    · rw [e, e0]
      omega
    rcases List.mem_cons.mp m with e | m
    · rw [e, e1]
      omega
    exact (hr a m).1
/-- the end: every text is through -/
theorem zipN_end {Q : Fin → Shared → Prop} (hh : A.handled = none) (S : Zs z TI TO its) (N : Zn s.heap z TI TO its xs i) (hend : ∀ x ∈ xs, x.1.cps.size = i) (hne : its ≠ [])
    (hE : ∀ h' e, (∀ c o, c ≠ z → c ∉ its → s.heap.get? c = some o → h'.get? c = some o) → (∃ o, h'.get? e = some o ∧ o.cls = .type "StopIteration") → E (.ref e) { s with heap := h' }) :
    wpAny (model prog w) A (Builtin.«zip.__next__» ⟨[.ref z], []⟩) Q E s := by
  obtain ⟨f0, fl, hz, hf⟩ := N.zip
  show wpAny _ _ (field (.ref z) 2 >>= _) _ _ _
  refine wpAny_bind (wpAny_field hz rfl (x := .bool false) rfl ?_)
  show wpAny _ _ (field (.ref z) 3 >>= _) _ _ _
  refine wpAny_bind (wpAny_field hz rfl (x := .ref TI) rfl ?_)
  refine wpAny_bind (wpAny_seqItems N.ti rfl ?_)
  have it := N.it
  cases it with
  | nil => exact absurd rfl hne
  | cons st r =>
    rename_i a x its xs
    have he : (((a :: its).map Value.ref).toArray.isEmpty) = false := rfl
    simp only [he, Bool.false_eq_true, if_false]
    have za : z ≠ a := fun e => S.zi (by rw [e]; exact List.mem_cons_self)
    have hx := hend x List.mem_cons_self
    refine wpAny_bind (free_or N.zip fun b h1 hz1 hs1 => ?_)
    replace hs1 : Heap.SameBut z s.heap h1 := hs1
    obtain ⟨g0, gl, hg, hg2⟩ := hz1
    have st1 : h1.IsStrIter a (strIterType x.1) x.1 x.2 i := by
      obtain ⟨o, e, f⟩ := st
      exact ⟨o, hs1.extBut _ _ (Ne.symm za) e, f⟩
    cases b with
    | true =>
      simp only [if_true]
      refine wpAny_bind (wpAny_rule ?_)
      refine wpAny_bind (wpAny_field hg rfl (x := .ref TO) rfl ?_)
      refine wpAny_bind (wpAny_setField_rec hg (by simp) fun h2 hz2 hs2 => ?_)
      replace hz2 : h2.get? z = some { cls := .type "zip", dict := none, data := .fields #[.ellipsis, .bool gl, .bool false, .ref TI, .ref TO], slots := #[] } := hz2
      replace hs2 : Heap.SameBut z h1 h2 := hs2
      have st2 : h2.IsStrIter a (strIterType x.1) x.1 x.2 i := by
        obtain ⟨o, e, f⟩ := st1
        exact ⟨o, hs2.extBut _ _ (Ne.symm za) e, f⟩
      simp only [List.map_cons, List.zipIdx_cons, List.forIn_cons]
      refine wpAny_bind (wpAny_bind (wpAny_bind (wpAny_onRaise ?_)))
      show wpAny _ _ (Builtin.SmallTypes.nextOf (.ref a) >>= _) _ _ _
      refine wpAny_bind ((Draws.text (prog := prog) (w := w) (A := A) hh a x.1 x.2).done _ _ _ (by rw [hx]; exact st2) fun h' e eb he' => ?_)
      replace eb : Heap.ExtBut a h2 h' := eb
      refine wpAny_setField_rec (s := { s with heap := h' }) (eb _ _ za hz2) (by simp) fun h3 hz3 hs3 => ?_
      replace hs3 : Heap.SameBut z h' h3 := hs3
      obtain ⟨o, ho, hc⟩ := he'
      have nez : e ≠ z := fun q => by
        rw [q, eb _ _ za hz2] at ho
        cases ho
        have q2 : ("zip" : String) = "StopIteration" := by
          injection hc
        exact absurd q2 (by decide)
      exact hE h3 e (fun c o n1 n2 e => hs3.extBut _ _ n1 (eb _ _ (fun q => n2 (by rw [q]; exact List.mem_cons_self)) (hs2.extBut _ _ n1 (hs1.extBut _ _ n1 e)))) ⟨o, hs3.extBut _ _ nez ho, hc⟩
    | false =>
      simp only [Bool.false_eq_true, if_false]
      refine wpAny_bind ?_
      rw [← Array.forIn_toList]
      simp only [List.map_cons, List.forIn_cons]
      refine wpAny_bind (wpAny_bind (wpAny_holding ?_))
      show wpAny _ _ (Builtin.SmallTypes.nextOf (.ref a) >>= _) _ _ _
      refine wpAny_bind ((Draws.text (prog := prog) (w := w) (A := A) hh a x.1 x.2).done _ _ _ (by rw [hx]; exact st1) fun h' e eb he' => ?_)
      replace eb : Heap.ExtBut a h1 h' := eb
      exact hE h' e (fun c o n1 n2 e => eb _ _ (fun q => n2 (by rw [q]; exact List.mem_cons_self)) (hs1.extBut _ _ n1 e)) he'
theorem pyNext_zipN {Q : Option Value → Shared → Prop} (hh : A.in1.handled = none) (S : Zs z TI TO its) (N : Zn s.heap z TI TO its xs i) (hlt : ∀ x ∈ xs, i < x.1.cps.size) (hne : its ≠ []) (hmany : its.length ≤ 100000)
    (hQ : ∀ vs h' tk, Drawn i vs xs → Zn h' z TI TO its xs (i + 1) → h'.get? s.heap.objs.size = some { cls := Value.type "tuple", data := .seq vs.toArray } → h'.objs.size = s.heap.objs.size + 1 →
      (∀ c o, c ≠ z → c ≠ TO → c ∉ its → s.heap.get? c = some o → h'.get? c = some o) → Q (some (.ref s.heap.objs.size)) { s with heap := h', toks := tk }) :
    wpAny (model prog w) A (pyNext (.ref z)) Q E s := by
  have hT : s.TypeIs (.ref z) "zip" := by
    obtain ⟨f0, fl, hz, _⟩ := N.zip
    exact ⟨_, hz, rfl⟩
  unfold pyNext
  exact wpAny_bind (wpAny_attempt (wpAny_callSpecial?_slot (name := Str.ofString "__next__") hT F.slot_zip_next
    (wpAny_call_entry F.slot_zip_next hT F.entry_zip_next
      (zipN_item hh S N hlt hne hmany fun vs h' tk a b c d e => wpAny_pure (hQ vs h' tk a b c d e)) (F.args_zip_next_1 _))))
theorem pyNext_zipN_end {Q : Option Value → Shared → Prop} (hh : A.in1.handled = none) (S : Zs z TI TO its) (N : Zn s.heap z TI TO its xs i) (hend : ∀ x ∈ xs, x.1.cps.size = i) (hne : its ≠ [])
    (hQ : ∀ h', (∀ c o, c ≠ z → c ∉ its → s.heap.get? c = some o → h'.get? c = some o) → Q none { s with heap := h' }) : wpAny (model prog w) A (pyNext (.ref z)) Q E s := by
  have hT : s.TypeIs (.ref z) "zip" := by
    obtain ⟨f0, fl, hz, _⟩ := N.zip
    exact ⟨_, hz, rfl⟩
  unfold pyNext
  refine wpAny_bind (wpAny_attempt (wpAny_callSpecial?_slot (name := Str.ofString "__next__") hT F.slot_zip_next
    (wpAny_call_entry F.slot_zip_next hT F.entry_zip_next (zipN_end hh S N hend hne fun h' e hk he => ?_) (F.args_zip_next_1 _))))
  obtain ⟨o, ho, hc⟩ := he
  refine wpAny_bind (wpAny_isInstance (T := "StopIteration") (b := true) ⟨o, ho, hc⟩ isSubtype_stop ?_)
  exact wpAny_pure (hQ _ hk)
end
end Z

set_option maxRecDepth 100000
set_option maxHeartbeats 4000000
namespace Z
open PySem PySem.Spec PySem.Builtin PySem.Builtin.Str PyProof.Rows L2
/-! ### for x in zip( *texts) -/
def JZ (n : Nat) (col : Nat → List V) : It :=
  ⟨fun i _ => i < n, fun i H v H' => ∃ T, v = .ref T ∧ H T = none ∧ H' = upd H T (.tup (col i)), fun i _ => n ≤ i⟩
def colV (rows : List Str) (i : Nat) : List V := rows.map fun z => V.str (one (z.cps.toList.getD i 0))
theorem pyIter_z {prog : Program} {w : World} {A : Around} {E : Value → Shared → Prop} {s : Shared} {z : Addr} {Q : Value → Shared → Prop} (hT : s.TypeIs (.ref z) "zip") (h : Q (.ref z) s) : wpAny (model prog w) A (pyIter (.ref z)) Q E s := by
  refine wpAny_pyIter_slot hT F.slot_zip_iter (wpAny_call_entry F.slot_zip_iter hT F.entry_zip_iter ?_ (F.args_zip_iter_1 _))
  show wpAny _ _ (ret (.ref z)) _ _ s
  exact wpAny_pure ⟨_, rfl, "zip", _, hT, F.slot_zip_next.lookup, h⟩
theorem drawn_vals {i : Nat} : ∀ {vs : List Value} {xs : List (Str × Nat)}, Drawn i vs xs → Vals (colV (xs.map (·.1)) i) vs
  | _, _, .nil => .nil
  | _, _, .cons ⟨c, u, e, ev⟩ r => by
    refine .cons ?_ (drawn_vals r)
    subst ev
    refine ⟨u, ?_⟩
    rename_i x _ _
    have : x.1.cps.toList.getD i 0 = c := by
      rw [List.getD_eq_getElem?_getD, Array.getElem?_toList, e]
      rfl
    rw [this]
    rfl
theorem turn_zipN {P : Program} {w : World} {K : PySem.W.Frag} {tg : Str} {tpos : Pos} {z TI TO : Addr} {its : List Addr} {xs : List (Str × Nat)} {n : Nat} (S : Zs z TI TO its) (hne : its ≠ []) (hmany : its.length ≤ 100000) (hlen : its.length = xs.length) (hn : ∀ x ∈ xs, x.1.cps.size = n) :
    Turn P w K (.Name tg tpos) (JZ n (colV (xs.map (·.1)))) (z :: TI :: TO :: its) z (fun i h => Zn h z TI TO its xs i ∧ i ≤ n) where
  mem := List.mem_cons_self
  obj := fun i h st b hb => by
    obtain ⟨N, _⟩ := st
    rcases List.mem_cons.mp hb with q | hb
    · obtain ⟨_, _, e, _⟩ := N.zip
      rw [q]
      exact ⟨_, e, fun v q => nomatch q⟩
    rcases List.mem_cons.mp hb with q | hb
    · rw [q]
      exact ⟨_, N.ti, fun v q => nomatch q⟩
    rcases List.mem_cons.mp hb with q | hb
    · obtain ⟨_, _, e⟩ := N.to
      rw [q]
      exact ⟨_, e, fun v q => nomatch q⟩
    have it := N.it
    clear N hne hmany hlen
    have key : ∀ {its : List Addr} {xs : List (Str × Nat)}, Its h i its xs → b ∈ its → ∃ o, h.get? b = some o ∧ ∀ v, o.data ≠ .cell v := by
      intro its xs r
      induction r with
      | nil => intro m; cases m
      | cons a _ ih =>
        intro m
        rcases List.mem_cons.mp m with q | m
        · obtain ⟨o, e, _, d⟩ := a
          rw [q]
          exact ⟨o, e, fun v q => by rw [d] at q; cases q⟩
        · exact ih m
    exact key it hb
  keep := fun i h h' st k => by
    obtain ⟨⟨⟨f0, fl, hz, hf⟩, ti, ⟨os, ho, hto⟩, it⟩, hle⟩ := st
    exact ⟨⟨⟨f0, fl, k _ (by simp) _ hz, hf⟩, k _ (by simp) _ ti, ⟨os, ho, k _ (by simp) _ hto⟩, Its.keep it fun a m o e => k a (by simp [m]) o e⟩, hle⟩
  item := by
    intro X hP hw hK hc i pins s σ H E I hf st hg
    subst hP hw hK
    obtain ⟨N, _⟩ := st
    have hg' : i < n := hg
    have lt : ∀ b ∈ z :: TI :: TO :: its, b < s.heap.objs.size := fun b hb => by
      rcases List.mem_cons.mp hb with q | hb
      · obtain ⟨_, _, e, _⟩ := N.zip
        rw [q]; exact Heap.lt_size e
      rcases List.mem_cons.mp hb with q | hb
      · rw [q]; exact Heap.lt_size N.ti
      rcases List.mem_cons.mp hb with q | hb
      · obtain ⟨_, _, e⟩ := N.to
        rw [q]; exact Heap.lt_size e
      have key : ∀ {its : List Addr} {xs : List (Str × Nat)}, Its s.heap i its xs → b ∈ its → b < s.heap.objs.size := by
        intro its xs r
        induction r with
        | nil => intro m; cases m
        | cons a _ ih =>
          intro m
          rcases List.mem_cons.mp m with q | m
          · obtain ⟨o, e, _⟩ := a
            rw [q]; exact Heap.lt_size e
          · exact ih m
      exact key N.it hb
    refine pyNext_zipN (I.ok.hd hc) S N (fun x m => by rw [hn x m]; exact hg') hne hmany fun vs h' tk dr N' hT hsz hk => ?_
    refine ⟨_, rfl, ?_⟩
    unfold letOwnedTupleGo
    refine wpAny_pure ?_
    have rv := drawn_vals dr
    have hl : (colV (xs.map (·.1)) i).length ≤ sizeLine := by
      unfold colV
      rw [List.length_map, List.length_map]
      exact line5 (by omega)
    have new : ObjOk X.prog X.w (upd H s.heap.objs.size (.tup (colV (xs.map (·.1)) i))) h' s.heap.objs.size (.tup (colV (xs.map (·.1)) i)) := ⟨hl, vs, rv, ⟨_, hT, rfl, _, rfl⟩⟩
    have I1 : Inv X pins σ (upd H s.heap.objs.size (.tup (colV (xs.map (·.1)) i))) { s with heap := h', toks := tk } :=
      I.turnedNew (ch := z :: TI :: TO :: its) (fun c o hb q => hk c o (fun q' => hb (by simp [q'])) (fun q' => hb (by simp [q'])) (fun q' => hb (by simp [q'])) q) hf (Nat.le_refl _) new
    refine ⟨.ref s.heap.objs.size, _, I1, rfl, ⟨_, rfl, I.hok.fresh (Nat.le_refl _), rfl⟩, ⟨N', hg'⟩, fun b hb => ?_⟩
    rw [upd_ne (Nat.ne_of_lt (lt b hb))]
    exact (hf b hb).1
  done := by
    intro X hP hw hK hc i pins s σ H E I hf st hg
    subst hP hw hK
    obtain ⟨N, hle⟩ := st
    have e1 : i = n := Nat.le_antisymm hle hg
    exact pyNext_zipN_end (I.ok.hd hc) S N (fun x m => by rw [hn x m, e1]) hne fun h' hk => ⟨rfl, I.turnedL (t' := s.toks) (ch := z :: TI :: TO :: its) (fun c o hb q => hk c o (fun q' => hb (by simp [q'])) (fun q' => hb (by simp [q'])) q) hf⟩
  self := fun A i s Q E st h => by
    obtain ⟨N, _⟩ := st
    obtain ⟨_, _, e, _⟩ := N.zip
    exact pyIter_z ⟨_, e, rfl⟩ h
def iZipS (K : PySem.W.Frag) (te : TE) : TI := fun σ H R => te σ H fun v H1 => ∃ a rows n, v = .ref a ∧ SqL K H1 a (rows.map V.str) ∧ rows ≠ [] ∧ rows.length ≤ 100000 ∧ (∀ z ∈ rows, z.length = n) ∧ R (JZ n (colV rows)) H1
theorem vals_txts : ∀ {rows : List Str} {us : List Value}, Vals (rows.map V.str) us → ∃ xs : List (Str × Nat), us = txts xs ∧ xs.map (·.1) = rows
  | [], us, r => by
    cases r
    exact ⟨[], rfl, rfl⟩
  | z :: rows, us, r => by
    cases r with
    | cons a r =>
      obtain ⟨t, rfl⟩ := a
      obtain ⟨xs, rfl, e⟩ := vals_txts r
      exact ⟨(z, t) :: xs, rfl, by rw [List.map_cons, e]⟩
theorem pi_zipS {X : Cx} {e : Expr} {te : TE} {tg : Str} {p pos tpos sp_ : Pos} (K : PySem.W.Frag) (hg : Gl X "zip") (hm : X.mg "zip" = none) (he : PE X e te) (hK : X.K = K := by rfl) (hst : starEach [.Starred e sp_] X.env = [(true, eval e X.env)] := by rfl) :
    PI X (.Name tg tpos) (.Call (.Name "zip" p) [.Starred e sp_] [] pos) (iZipS K te) := by
  subst hK
  refine ⟨fun pins s σ H R I h => ?_⟩
  refine Call_ (ld_blt I hg hm PyProof.Rows.boot_zip ?_)
  rw [hst]
  refine PySem.W.ks_call (P := fun _ => True) rfl (fun h _ => ⟨.machine, .inr (.inl rfl), fun A Q E s _ q => wpAny_pure q⟩) (PySem.W.ks_lone ?_)
  refine thn (he.run pins s σ H _ I h) fun v s1 ⟨y, H1, I1, ry, q⟩ => ?_
  obtain ⟨a, rows, n, rfl, hS, hne, hl, hn, q⟩ := q
  obtain rfl : v = Value.ref a := ry
  refine StX.star_lst I1 hS fun us s2 I2 rv => ⟨trivial, ?_⟩
  obtain ⟨xs, rfl, ex⟩ := vals_txts rv
  cases xs with
  | nil => exact absurd ex.symm hne
  | cons x xs =>
    have hlx : (x :: xs).length ≤ 100000 := by rw [← ex, List.length_map] at hl; exact hl
    refine call_zipN x xs hlx fun its z TI TO h' S hni hil N hbig hk => ?_
    have hz : ({ s2 with heap := h' } : Shared).TypeIs (.ref z) "zip" := by
      obtain ⟨_, _, e, _⟩ := N.zip
      exact ⟨_, e, rfl⟩
    refine pyIter_z hz ?_
    have I3 : Inv X pins σ H1 { s2 with heap := h' } := I2.kept (t' := s2.toks) hk
    refine ⟨z, z :: TI :: TO :: its, _, _, H1, rfl, I3, turn_zipN (n := n) S hni (by omega) hil fun y m => ?_, ⟨N, Nat.zero_le _⟩, fun b hb => I2.fpOk (hbig b hb) (I2.hok.fresh (hbig b hb)), by rw [ex]; exact q⟩
    have : y.1 ∈ rows := by rw [← ex]; exact List.mem_map.mpr ⟨y, m, rfl⟩
    exact hn _ this
/-! ### text[::-1], list[::-1] -/
def revS (z : Str) : Str := SX.S z.cps.toList.reverse
theorem revS_is (z : Str) (u : Tok) : Txt.sliceBy z none none (-1, u) = revS z := by
  have e := PyProof.Rows.step_rev_list z u
  have e2 : ((List.range z.length).map fun k => z.cps.getD (z.length - 1 - k) 0) = z.cps.toList.reverse := by
    refine List.ext_getElem ?_ fun k h1 h2 => ?_
    · rw [List.length_map, List.length_range, List.length_reverse, str_len]
    · rw [List.length_map, List.length_range] at h1
      rw [List.getElem_map, List.getElem_range, List.getElem_reverse, ← PyProof.Rows.getD_list, List.getD_eq_getElem?_getD]
      have h3 : z.length - 1 - k < z.cps.toList.length := by rw [str_len]; omega
      rw [List.getElem?_eq_getElem h3, Option.getD_some]
      congr 1
  rw [e2] at e
  rw [← SX.S_tl (Txt.sliceBy z none none (-1, u)), e]
  rfl
def tRevS (te : TE) : TE := fun σ H Q => te σ H fun x H1 => ∃ z : Str, x = .str z ∧ z.length ≤ sizeLine ∧ Q (.str (revS z)) H1
theorem pe_revS {X : Cx} {e : Expr} {te : TE} {k : Nat} {p1 p2 p3 pos : Pos} (he : PE X e te) : PE X (.Subscript e (.Slice none none (some (.UnaryOp .USub (.Constant (.int 1) k p1) p2)) p3) pos) (tRevS te) := by
  refine ⟨fun pins s σ H Q I h => ?_⟩
  refine Subscript_ (thn (he.run pins s σ H _ I h) fun v s1 ⟨x, H1, I1, r1, q1⟩ => ?_)
  obtain ⟨z, ex, hz, q⟩ := q1
  subst ex
  obtain ⟨t, rfl⟩ := r1
  have hst : PO X (some (.UnaryOp .USub (.Constant (.int 1) k p1) p2)) (tPart (tUn (rU fun i => .int (-i)) (tC (.int 1)))) := po_some (pe_un un_neg pe_int)
  refine wpAny_Slice (thn (po_none.run pins s1 σ H1 (fun o H2 => o = none ∧ H2 = H1) I1 ⟨rfl, rfl⟩) fun vl s2 ⟨l, H2, I2, pl, el, e2⟩ => ?_)
  subst el e2
  refine thn (po_none.run pins s2 σ H2 (fun o H3 => o = none ∧ H3 = H2) I2 ⟨rfl, rfl⟩) fun vu s3 ⟨u, H3, I3, pu, eu, e3⟩ => ?_
  subst eu e3
  refine thn (hst.run pins s3 σ H3 (fun o H4 => o = some (-1) ∧ H4 = H3) I3 ⟨1, rfl, -1, rfl, rfl, rfl⟩) fun vs s4 ⟨o, H4, I4, ps, eo, e4⟩ => ?_
  subst eo e4
  have I5 : Inv X pins σ H4 { s4 with heap := s4.heap.push { cls := .type "slice", data := .fields #[vl, vu, vs] } } := I4.kept (t' := s4.toks) fun b ob q => Heap.get?_push_of_some _ q
  obtain ⟨l, rfl, hl⟩ := IsPart.raw pl
  obtain ⟨u, rfl, hu⟩ := IsPart.raw pu
  obtain ⟨o3, rfl, ho⟩ := IsPart.raw ps
  cases l with
  | some l => cases hl
  | none =>
  cases u with
  | some u => cases hu
  | none =>
  cases o3 with
  | none => cases ho
  | some o3 =>
  obtain ⟨n, u⟩ := o3
  have en : n = -1 := Option.some.inj ho
  subst en
  show wpAny (model X.prog X.w) X.A (subscriptTail e (.Slice none none (some (.UnaryOp .USub (.Constant (.int 1) k p1) p2)) p3) (.str z t) (.ref s4.heap.objs.size)) (EP X pins σ Q) X.xe _
  refine tail_any (ops := [.ref s4.heap.objs.size, .str z t]) (typeIs_str _ _ _) F.slot_str_getitem.lookup ?_ (by with_unfolding_all rfl)
  refine wpAny_getItem_str_slice (l := none) (u := none) (st := some (-1, u)) ⟨_, Heap.get?_push_size _ rfl, rfl, rfl⟩ rfl ?_
  have e := revS_is z u
  unfold Txt.sliceBy at e
  have c : ¬ ((((some ((-1 : Int), u)).map (·.1)).getD 1 == 1 && (slicePicked z none none (some (-1, u))).length == z.length) = true) := by
    intro g
    rw [Bool.and_eq_true] at g
    have g1 : ((-1 : Int) == 1) = true := g.1
    exact absurd g1 (by decide)
  rw [if_neg c] at e
  show Made.post (if _ then _ else _) _ _
  rw [if_neg c, e]
  refine ⟨?_, .str _, H4, I5.tok _, ⟨_, rfl⟩, q⟩
  unfold revS
  rw [SX.S_len, List.length_reverse, str_len]
  exact hz
theorem pe_revL2 {X : Cx} {e : Expr} {te : TE} {k : Nat} {p1 p2 p3 pos : Pos} (K : PySem.W.Frag) (he : PE X e te) (hK : X.K = K := by rfl) : PE X (.Subscript e (.Slice none none (some (.UnaryOp .USub (.Constant (.int 1) k p1) p2)) p3) pos) (tRevL K te) := by
  subst hK
  exact pe_revL he
end Z

namespace Lw
open PySem PySem.Spec PyProof.Rows L2 Z
local macro_rules | `(tactic| walk_at "zd") => `(tactic| try dsimp only [tSeq, tIfS, L2.tOr, L2.tAnd, tNot, zTest, tOp, tUn, zVar, tC, tAsg, tRet, tNext, tCB, tCall, tCallR, tBM, tBM0, tPar, tCons, tNil, gName, gSub, tAugS, tDrop, tLst, tTup, tM1, L2.tSl, tPart, tNoPart, zChain, zAndV, zOrV, zNotV, tIf, List.getElem?_cons_zero, List.getElem?_cons_succ, List.set_cons_zero, List.set_cons_succ, onV, onB, onI, onR, onS, gIxZ, ipZ, rSetZ, rSubZ, rModZ, rDivZ, rNegZ, rPowZ, rAbsZ, rIntZ, id, List.nil_append, List.cons_append, List.append_nil])
def top (i : Nat) : Stmt := PySem.Challenge.pw_cellscript_k12_pictures_known.main.body.getD i (.Pass ⟨0, 0, 0, 0⟩)
abbrev s_is_made_of : Stmt := top 2
abbrev s_is_picture : Stmt := top 6
abbrev s_is_piece : Stmt := top 7
abbrev s_is_rows : Stmt := top 8
abbrev s_law_bag : Stmt := top 10
abbrev s_law_take : Stmt := top 11
abbrev s_law_rows : Stmt := top 12
abbrev s_law_menu : Stmt := top 13
abbrev s_law_spoilt : Stmt := top 14
abbrev s_law_are : Stmt := top 15
abbrev s_law_right : Stmt := top 16
abbrev s_law : Stmt := top 17
theorem sc_is_made_of : FnScope ["thing", "signs", "sign"] ["thing", "signs"] (defScope s_is_made_of) := ⟨rfl, rfl, rfl, by decide +kernel, rfl, by decide +kernel, by decide +kernel⟩
theorem sc_is_picture : FnScope ["thing"] ["thing"] (defScope s_is_picture) := ⟨rfl, rfl, rfl, by decide +kernel, rfl, by decide +kernel, by decide +kernel⟩
theorem sc_is_piece : FnScope ["thing"] ["thing"] (defScope s_is_piece) := ⟨rfl, rfl, rfl, by decide +kernel, rfl, by decide +kernel, by decide +kernel⟩
theorem sc_is_rows : FnScope ["thing", "signs", "most", "row"] ["thing", "signs", "most"] (defScope s_is_rows) := ⟨rfl, rfl, rfl, by decide +kernel, rfl, by decide +kernel, by decide +kernel⟩
theorem sc_law_bag : FnScope ["_law_script", "_law_cell"] ["_law_script"] (defScope s_law_bag) := ⟨rfl, rfl, rfl, by decide +kernel, rfl, by decide +kernel, by decide +kernel⟩
theorem sc_law_take : FnScope ["_law_bag_here", "_law_many", "_law_cell", "_law_value", "_law_first", "_law_second"] ["_law_bag_here", "_law_many"] (defScope s_law_take) := ⟨rfl, rfl, rfl, by decide +kernel, rfl, by decide +kernel, by decide +kernel⟩
theorem sc_law_rows : FnScope ["_law_bag_here", "_law_signs", "_law_most", "_law_sides", "_law_k", "_law_j"] ["_law_bag_here", "_law_signs", "_law_most"] (defScope s_law_rows) := ⟨rfl, rfl, rfl, by decide +kernel, rfl, by decide +kernel, by decide +kernel⟩
theorem sc_law_menu : FnScope ["_law_bag_here", "_law_few"] ["_law_bag_here"] (defScope s_law_menu) := ⟨rfl, rfl, rfl, by decide +kernel, rfl, by decide +kernel, by decide +kernel⟩
theorem sc_law_spoilt : FnScope ["_law_bag_here", "_law_rows_here", "_law_at", "_law_way", "_law_k", "_law_sign", "_law_row", "_law_odd"] ["_law_bag_here", "_law_rows_here"] (defScope s_law_spoilt) := ⟨rfl, rfl, rfl, by decide +kernel, rfl, by decide +kernel, by decide +kernel⟩
theorem sc_law_are : FnScope ["_law_thing", "_law_signs", "_law_row", "_law_sign"] ["_law_thing", "_law_signs"] (defScope s_law_are) := ⟨rfl, rfl, rfl, by decide +kernel, rfl, by decide +kernel, by decide +kernel⟩
theorem sc_law_right : FnScope ["_law_thing", "_law_signs", "_law_due", "_law_kept", "_law_turn", "_law_found", "_law_one"] ["_law_thing"] (defScope s_law_right) := ⟨rfl, rfl, rfl, by decide +kernel, rfl, by decide +kernel, by decide +kernel⟩
theorem sc_law : FnScope ["_law_script", "_law_bag_here", "_law_turn", "_law_rows_here", "_law_bent", "_law_k", "_law_odd", "_law_thing"] ["_law_script"] (defScope s_law) := ⟨rfl, rfl, rfl, by decide +kernel, rfl, by decide +kernel, by decide +kernel⟩
structure Tx (K : PySem.W.Frag) (mg : Str → Option Value) : Prop where
  abs : mg "abs" = none
  all : mg "all" = none
  bool : mg "bool" = none
  int : mg "int" = none
  isinstance : mg "isinstance" = none
  len : mg "len" = none
  list : mg "list" = none
  range : mg "range" = none
  repr : mg "repr" = none
  str : mg "str" = none
  tuple : mg "tuple" = none
  c_SIGNS : ∃ u, mg "SIGNS" = some u ∧ RelV (.str ".abcdefghijklmnopqrstuvwxyz") u
  c_MOST : ∃ u, mg "MOST" = some u ∧ RelV (.int 32) u
  c_LEFT_ALONE : ∃ u, mg "LEFT_ALONE" = some u ∧ RelV (.str "_") u
section
variable {P : Program} {w : World} {K : PySem.W.Frag} {mg : Str → Option Value} {base : Heap} {f : Addr} {fd : FuncData}
theorem ok_take (T : Tx K mg) (F : FunD K "_law_take" "_law_take" (defArgs s_law_take) (defBody s_law_take) (defScope s_law_take) [] [] f fd) : FnG P w K mg base CX0 1 f fd ["_law_bag_here", "_law_many"] (spTake K) := by
  refine FnG.of F sc_law_take (fun vs H Q E h => ?_) (fun cdv A outer s H vs Q E hr gd h => ?_)
  · obtain ⟨ω, m, rfl, _⟩ := h
    rfl
  · obtain ⟨⟨b, c, cs⟩, m, rfl, ⟨x0, x1, x2, g⟩, hm, hm2, k⟩ := h
    dsimp only at g k
    have hu : (A.deeper (envOfC "_law_take" (defScope s_law_take) s.heap.objs.size f cdv)).units + 64 < cLine := by have := hr.un; omega
    refine ⟨_, PSs.nox (C8.pss_cut
    (ps_if (pz_cmp (op_eqK K hu) (pe_ix (ix_K K) (zv 0) pe_int (fun _ _ => rfl)) pe_int (nomark _))
      (pss_cons
        (ps_set (i := 2) sc_law_take.nd rfl (Or.inl rfl) pe_int)
        (C8.pss_cut
        (ps_if (pz_cmp op_ltZ (pe_ix (ix_K K) (zv 0) pe_int (fun _ _ => rfl)) (pe_callB (call_lenK K) (by rfl) T.len (by decide +kernel) (pa_cons (pe_ix (ix_K K) (zv 0) pe_int (fun _ _ => rfl)) pa_nil)) (nomark _))
          (pss_one
            (ps_set (i := 2) sc_law_take.nd rfl (Or.inl rfl) (pe_ix (ix_K K) (pe_ix (ix_K K) (zv 0) pe_int (fun _ _ => rfl)) (pe_ix (ix_K K) (zv 0) pe_int (fun _ _ => rfl)) (fun _ _ => rfl))))
          pss_nil)
        (pss_cons
        (ps_augS (zv 0) pe_int (pget_K K) pe_int ip_Z set_Z)
        (C8.pss_cut
        (ps_if (pz_cmp op_geZ (zv 2) pe_int (nomark _))
          (pss_one
            (ps_asg (zv 2) (pg_sub (zv 0) pe_int set_Z)))
          pss_nil)
        (pss_one
        (ps_asg (pe_op op_modZ (pe_op op_addZ (pe_op op_addZ (pe_op op_mulZ (pe_ix (ix_K K) (zv 0) pe_int (fun _ _ => rfl)) pe_int) (pe_op op_modZ (zv 2) pe_int)) (pe_op op_mulZ pe_int (pe_ix (ix_K K) (zv 0) pe_int (fun _ _ => rfl)))) pe_int) (pg_sub (zv 0) pe_int set_Z)))))))
      pss_nil)
    (pss_cons
    (ps_if (pz_cmp op_gtZ (pe_ix (ix_K K) (zv 0) pe_int (fun _ _ => rfl)) pe_int (nomark _))
      (pss_cons
        (ps_set (i := 3) sc_law_take.nd rfl (Or.inl rfl) (pe_op op_modZ (pe_ix (ix_K K) (zv 0) pe_int (fun _ _ => rfl)) (zv 1)))
        (pss_cons
        (ps_asg (pe_op op_divZ (pe_ix (ix_K K) (zv 0) pe_int (fun _ _ => rfl)) (zv 1)) (pg_sub (zv 0) pe_int set_Z))
        (pss_one
        (ps_ret (zv 3)))))
      pss_nil)
    (pss_cons
    (ps_set (i := 4) sc_law_take.nd rfl (Or.inl rfl) (pe_op op_modZ (pe_op op_mulZ (pe_op op_addZ (pe_ix (ix_K K) (zv 0) pe_int (fun _ _ => rfl)) pe_int) pe_int) pe_int))
    (pss_cons
    (ps_set (i := 5) sc_law_take.nd rfl (Or.inl rfl) (pe_op op_modZ (pe_op op_mulZ (pe_op op_modZ (pe_op op_mulZ (zv 4) (zv 4)) pe_int) pe_int) pe_int))
    (pss_cons
    (ps_if (pz_cmp op_gtZ (zv 1) pe_int (nomark _))
      (pss_one
        (ps_ret (pe_op op_modZ (pe_op op_addZ (pe_op op_mulZ (zv 5) pe_int) (zv 4)) (zv 1))))
      pss_nil)
    (pss_one
    (ps_ret (pe_op op_modZ (pe_op op_divZ (zv 5) pe_int) (zv 1))))))))), ?_⟩
    try dsimp only [cxOf, Cx.nox]
    refine ⟨fun σ' H' => ∃ v y0 y1 y2, σ' = [some (V.ref b), some (V.int m), v, none, none, none] ∧ Go b H H' ∧ BagC K H' b c cs y0 y1 y2, ?_, ?_⟩
    · show (tIfS _ _ _) _ [some (V.ref b), some (V.int m), none, none, none, none] _
      dsimp only [tSeq, tIfS, zTest, tOp, zVar, tC, tAsg, tRet, tNext, tCB, tCons, tNil, gName, gSub, tAugS, List.getElem?_cons_zero, List.getElem?_cons_succ, List.set_cons_zero, List.set_cons_succ, onV, onB, onI, onR, gIxZ, ipZ, rSetZ, rSubZ, rModZ, rDivZ, rMulZ, rAddZ, rCmpZ, id]
      refine ixL (sq_of g.at_) rfl (eqI (iteD (fun z0 => ?_) fun _ => ⟨none, x0, x1, x2, rfl, Go.refl _ _, g⟩))
      -- the cell
      refine ⟨fun σ' H' => ∃ y, σ' = [some (V.ref b), some (V.int m), some (V.int y), none, none, none] ∧ H' = H ∧ 0 ≤ y, ?_, ?_⟩
      · dsimp only [tSeq, tIfS, zTest, tOp, zVar, tC, tAsg, tRet, tNext, tCB, tCons, tNil, gName, gSub, tAugS, List.getElem?_cons_zero, List.getElem?_cons_succ, List.set_cons_zero, List.set_cons_succ, onV, onB, onI, onR, gIxZ, ipZ, rSetZ, rSubZ, rModZ, rDivZ, rMulZ, rAddZ, rCmpZ, id]
        refine ixL (sq_of g.at_) rfl (ixL (sq_of g.at_) rfl (lenL g.cells rfl (iteD (fun z2 => ?_) fun _ => ⟨0, rfl, rfl, Int.le_refl _⟩)))
        rw [List.length_map] at z2
        obtain ⟨j, rfl⟩ := Int.eq_ofNat_of_zero_le g.h2
        have hj : j < cs.length := by omega
        refine ixL (sq_of g.at_) rfl (ixL (sq_of g.at_) rfl (ixN g.cells (v := .int cs[j]) (by rw [List.getElem?_map, List.getElem?_eq_getElem hj]; rfl) ?_))
        exact ⟨cs[j], rfl, rfl, g.hc _ (List.getElem_mem hj)⟩
      · rintro σ' H' ⟨y, rfl, rfl, hy⟩
        dsimp only [tSeq, tIfS, zTest, tOp, zVar, tC, tAsg, tRet, tNext, tCB, tCons, tNil, gName, gSub, tAugS, List.getElem?_cons_zero, List.getElem?_cons_succ, List.set_cons_zero, List.set_cons_succ, onV, onB, onI, onR, gIxZ, ipZ, rSetZ, rSubZ, rModZ, rDivZ, rMulZ, rAddZ, rCmpZ, id]
        refine ⟨_, _, by decide, sq_of g.at_, rfl, _, g.at_, ⟨by decide, by show (2 : Int) < 4; decide⟩, ?_⟩
        have g1 : BagC K (upd H' b (bagL x0 x1 (x2 + 1) c)) b c cs x0 x1 (x2 + 1) := g.set g.h0 g.h1 (by have := g.h2; omega)
        refine ⟨fun σ' H2 => ∃ y0, σ' = [some (V.ref b), some (V.int m), some (V.int y), none, none, none] ∧ Go b H' H2 ∧ BagC K H2 b c cs y0 x1 (x2 + 1), ?_, ?_⟩
        · dsimp only [tSeq, tIfS, zTest, tOp, zVar, tC, tAsg, tRet, tNext, tCB, tCons, tNil, gName, gSub, tAugS, List.getElem?_cons_zero, List.getElem?_cons_succ, List.set_cons_zero, List.set_cons_succ, onV, onB, onI, onR, gIxZ, ipZ, rSetZ, rSubZ, rModZ, rDivZ, rMulZ, rAddZ, rCmpZ, id]
          refine iteD (fun z3 => ?_) fun _ => ⟨x0, rfl, go_mut (Go.refl _ _), g1⟩
          refine ⟨_, g1.at_, ⟨by decide, by show (0 : Int) < 4; decide⟩, ?_⟩
          exact ⟨y, rfl, go_mut (go_mut (Go.refl _ _)), g1.set hy g1.h1 g1.h2⟩
        · rintro σ' H2 ⟨y0, rfl, gg, g2⟩
          dsimp only [tSeq, tIfS, zTest, tOp, zVar, tC, tAsg, tRet, tNext, tCB, tCons, tNil, gName, gSub, tAugS, List.getElem?_cons_zero, List.getElem?_cons_succ, List.set_cons_zero, List.set_cons_succ, onV, onB, onI, onR, gIxZ, ipZ, rSetZ, rSubZ, rModZ, rDivZ, rMulZ, rAddZ, rCmpZ, id]
          refine ixL (sq_of g2.at_) rfl ⟨.inl (.inr (by decide)), by decide, ?_⟩
          refine ixL (sq_of g2.at_) rfl ⟨.inl (.inl (by decide)), by decide, ?_⟩
          refine ⟨_, g2.at_, ⟨by decide, by show (1 : Int) < 4; decide⟩, ?_⟩
          refine ⟨_, y0, (x1 * 48271 + y % 2147483647 + 7919 * (x2 + 1)) % 2147483647, x2 + 1, rfl, go_mut gg, g2.set g2.h0 ⟨by omega, by omega⟩ g2.h2⟩
    · rintro σ' H' ⟨v, y0, y1, y2, rfl, gg, g1⟩
      dsimp only [tSeq, tIfS, zTest, tOp, zVar, tC, tAsg, tRet, tNext, tCB, tCons, tNil, gName, gSub, tAugS, List.getElem?_cons_zero, List.getElem?_cons_succ, List.set_cons_zero, List.set_cons_succ, onV, onB, onI, onR, gIxZ, ipZ, rSetZ, rSubZ, rModZ, rDivZ, rMulZ, rAddZ, rCmpZ, id]
      refine ixL (sq_of g1.at_) rfl (iteD (fun z0 => ?_) fun z0 => ?_)
      · refine ixL (sq_of g1.at_) rfl ⟨hm, ?_⟩
        have hl : m.natAbs.log2 < 9000 := by
          have : m.natAbs.log2 < 62 := (Nat.log2_lt (by omega)).mpr (by omega)
          omega
        refine ixL (sq_of g1.at_) rfl ⟨⟨hm, hl⟩, ?_⟩
        refine ⟨_, g1.at_, ⟨by decide, by show (0 : Int) < 4; decide⟩, ?_⟩
        exact k _ _ (Int.emod_nonneg _ (by omega)) (Int.emod_lt_of_pos _ hm) ⟨_, _, _, g1.set (Int.ediv_nonneg g1.h0 (by omega)) g1.h1 g1.h2⟩ (go_mut gg)
      · refine ixL (sq_of g1.at_) rfl ⟨.inl (.inr (by decide)), by decide, ?_⟩
        generalize hf : (y1 + 1) * 39373 % 1000000007 = x
        have hx : 0 ≤ x ∧ x < 1000000007 := by omega
        refine ⟨.inl (.inl (by omega)), by decide, .inl (.inl (by omega)), by decide, ?_⟩
        generalize hs : x * x % 998244353 * 30011 % 998244353 = y
        have hy : 0 ≤ y ∧ y < 998244353 := by omega
        have kk : ∀ z, Q (.int (z % m)) H' := fun z => k _ _ (Int.emod_nonneg _ (by omega)) (Int.emod_lt_of_pos _ hm) ⟨_, _, _, g1⟩ gg
        refine iteD (fun z1 => ?_) fun z1 => ?_
        · exact ⟨.inl (.inl (by omega)), hm, kk _⟩
        · exact ⟨⟨by decide, by decide⟩, hm, kk _⟩

/-! ### is_made_of, is_rows, is_picture, is_piece -/
def inSg (sg : Str) (c : Nat) : Bool := decide (c ∈ sg.cps.toList)
def madeOf (sg : Str) : PyData → Bool
  | .str x => x.cps.toList.all (inSg sg)
  | _ => false
def slen : PyData → Nat
  | .str x => x.length
  | _ => 0
def isRows (sg : Str) (m : Int) : PyData → Bool
  | .list ds => (decide (1 ≤ (ds.length : Int)) && decide ((ds.length : Int) ≤ m)) && (ds.all (madeOf sg) && (decide (1 ≤ (slen (ds.headD .none) : Int)) && decide ((slen (ds.headD .none) : Int) ≤ m) && ds.all fun r => decide ((slen r : Int) = (slen (ds.headD .none) : Int))))
  | _ => false
def spMade (K : PySem.W.Frag) : Sp := fun vs H Q _ => ∃ v d sg, vs = [v, .str sg] ∧ Th K H v d ∧ d.weight ≤ 20000 ∧ ∀ H', Same H H' → Q (.bl (madeOf sg d)) H'
def spRows (K : PySem.W.Frag) : Sp := fun vs H Q _ => ∃ v d sg m, vs = [v, .str sg, .int m] ∧ Th K H v d ∧ d.weight ≤ 20000 ∧ ∀ H', Same H H' → Q (.bl (isRows sg m d)) H'
def spPic (K : PySem.W.Frag) (sg : Str) : Sp := fun vs H Q _ => ∃ v d, vs = [v] ∧ Th K H v d ∧ d.weight ≤ 20000 ∧ ∀ H', Same H H' → Q (.bl (isRows sg 32 d)) H'
theorem mem_weight : ∀ {ds : List PyData} {d : PyData}, d ∈ ds → d.weight ≤ PyData.weightAll ds
  | e :: ds, d, h => by
    simp only [PyData.weightAll]
    rcases List.mem_cons.mp h with rfl | h
    · omega
    · have := mem_weight h
      omega
theorem len_weight : ∀ (ds : List PyData), ds.length ≤ PyData.weightAll ds
  | [] => Nat.zero_le _
  | e :: ds => by
    simp only [PyData.weightAll, List.length_cons]
    have := len_weight ds
    omega
theorem ok_made (T : Tx K mg) (F : FunD K "is_made_of" "is_made_of" (defArgs s_is_made_of) (defBody s_is_made_of) (defScope s_is_made_of) [] [] f fd) : FnG P w K mg base CX0 1 f fd ["thing", "signs"] (spMade K) := by
  refine FnG.of F sc_is_made_of (fun vs H Q E h => ?_) (fun cdv A outer s H vs Q E hr gd h => ?_)
  · obtain ⟨v, d, sg, rfl, _⟩ := h
    rfl
  · obtain ⟨v, d, sg, rfl, hv, hz, k⟩ := h
    have hu : (A.deeper (envOfC "is_made_of" (defScope s_is_made_of) s.heap.objs.size f cdv)).units + 64 < cLine := by have := hr.un; omega
    refine ⟨_, PSs.nox (pss_one
    (ps_ret (pz_and (pe_callB (call_isiK K) (by rfl) T.isinstance (by decide +kernel) (pa_cons (zv 0) (pa_cons (pe_bltn (v := .ty "str") (by rfl) T.str (by decide +kernel) rfl) pa_nil))) (pe_one (pe_callB (call_allK K) (by rfl) T.all (by decide +kernel) (pa_cons (pe_lc (own := [("sign", 2)]) rfl sc_is_made_of.nd (pi_str (zv 0)) (blkOk_by (by kernel_rfl)) (fun _ _ _ _ _ => (pg_name (i := 2) sc_is_made_of.nd rfl (Or.inl rfl))) (fun _ _ _ _ _ => pts_nil) (fun _ _ _ _ _ => (pe_cmpR (op_inK K) (zv 2) (zv 1) (by with_unfolding_all rfl)))) pa_nil)))))), ?_⟩
    try dsimp only [cxOf, Cx.nox]
    show (tRet _) _ [some v, some (.str sg), none] _
    dsimp only [tRet, zAndV, tCB, tCons, tNil, zVar, tC, List.getElem?_cons_zero, List.getElem?_cons_succ, onV, onB]
    refine isi_str hv (iteB (fun e => ?_) fun e => ?_)
    · obtain ⟨x, rfl, rfl⟩ := th_str hv e
      refine comp_str (x := x) (fun v => .bl (onSigns (inSg sg) v)) (fun R r => r H (Same.refl H)) (by simp only [PyData.weight] at hz; exact Nat.le_trans hz (by decide)) ?_ fun D H' hD s1 h1 => ?_
      · intro y hy H' s1 Q' q
        obtain ⟨c, hc, rfl⟩ := mem_signs hy
        exact inS (K := K) (bl_is (onSigns1 (inSg sg) c).symm (q H' (Same.refl _)))
      · exact allL (sq_of (by rw [h1, signs_map])) (by rw [List.all_map]; rfl) (k H' s1)
    · exact bl_is (by cases d <;> first | rfl | cases e) (k H (Same.refl _))
theorem thA_mem {H : Hp} {ds : List PyData} {vs : List V} (a : ThA K H vs ds) {v : V} (h : v ∈ vs) : ∃ d, d ∈ ds ∧ Th K H v d := by
  obtain ⟨i, hi⟩ := List.getElem?_of_mem h
  obtain ⟨d, h1, h2⟩ := a.get hi
  exact ⟨d, List.mem_of_getElem? h1, h2⟩
theorem ok_rows (T : Tx K mg) (c_is_made_of : Cg P w K mg base CX0 1 "is_made_of" (spMade K)) (F : FunD K "is_rows" "is_rows" (defArgs s_is_rows) (defBody s_is_rows) (defScope s_is_rows) [] [] f fd) : FnG P w K mg base CX0 2 f fd ["thing", "signs", "most"] (spRows K) := by
  refine FnG.of F sc_is_rows (fun vs H Q E h => ?_) (fun cdv A outer s H vs Q E hr gd h => ?_)
  · obtain ⟨v, d, sg, m, rfl, _⟩ := h
    rfl
  · obtain ⟨v, d, sg, m, rfl, hv, hz, k⟩ := h
    have hu : (A.deeper (envOfC "is_rows" (defScope s_is_rows) s.heap.objs.size f cdv)).units + 64 < cLine := by have := hr.un; omega
    refine ⟨_, PSs.nox (pss_cons
    (ps_if (PW.pt (pw_or (pt_not (pz_val (pe_callB (call_isiK K) (by rfl) T.isinstance (by decide +kernel) (pa_cons (zv 0) (pa_cons (pe_bltn (v := .ty "list") (by rfl) T.list (by decide +kernel) rfl) pa_nil))))) (pw_or1 (pt_not (pz_chainT op_leZ op_leZ pe_int (pe_callB (call_lenK K) (by rfl) T.len (by decide +kernel) (pa_cons (zv 0) pa_nil)) (zv 2))))))
      (pss_one
        (ps_ret pe_bl))
      pss_nil)
    (pss_cons
    (ps_if (pt_not (pz_val (pe_callB (call_allK K) (by rfl) T.all (by decide +kernel) (pa_cons (pe_lc (own := [("row", 3)]) rfl sc_is_rows.nd (pi_listK K (zv 0)) (blkOk_by (by kernel_rfl)) (fun _ _ _ _ _ => (pg_name (i := 3) sc_is_rows.nd rfl (Or.inl rfl))) (fun _ _ _ _ _ => pts_nil) (fun _ _ _ _ _ => (pe_cg c_is_made_of hr gd (by decide) (by rfl) pass0 (pa_cons (zv 3) (pa_cons (zv 1) pa_nil))))) pa_nil))))
      (pss_one
        (ps_ret pe_bl))
      pss_nil)
    (pss_one
    (ps_ret (pz_and (pz_chain op_leZ op_leZ pe_int (pe_callB (call_lenK K) (by rfl) T.len (by decide +kernel) (pa_cons (pe_ix (ix_K K) (zv 0) pe_int (fun _ _ => rfl)) pa_nil)) (zv 2)) (pe_one (pe_callB (call_allK K) (by rfl) T.all (by decide +kernel) (pa_cons (pe_lc (own := [("row", 3)]) rfl sc_is_rows.nd (pi_listK K (zv 0)) (blkOk_by (by kernel_rfl)) (fun _ _ _ _ _ => (pg_name (i := 3) sc_is_rows.nd rfl (Or.inl rfl))) (fun _ _ _ _ _ => pts_nil) (fun _ _ _ _ _ => (pe_cmpR (op_eqK K hu) (pe_callB (call_lenK K) (by rfl) T.len (by decide +kernel) (pa_cons (zv 3) pa_nil)) (pe_callB (call_lenK K) (by rfl) T.len (by decide +kernel) (pa_cons (pe_ix (ix_K K) (zv 0) pe_int (fun _ _ => rfl)) pa_nil)) (nomark _)))) pa_nil)))))))), ?_⟩
    try dsimp only [cxOf, Cx.nox]
    show (tSeq _ _) _ [some v, some (.str sg), some (.int m), none] _
    walk_at "zd"
    refine isi_list hv (iteB (fun e0 => ?_) fun e0 => ?_)
    · exact bl_is (by cases d <;> simp_all [isList, isRows]) (k H (Same.refl _))
    obtain ⟨a, xs, ds, rfl, rfl, hS, hA⟩ := th_list hv (by simpa using e0)
    have hw : PyData.weightAll ds ≤ 20000 := by simpa only [PyData.weight] using hz
    have hn : xs.length = ds.length := hA.len
    have hn2 := len_weight ds
    refine ⟨xs, .inl hS, leI ?_⟩
    walk_at "zd"
    refine iteD (fun h1 => leI ?_) fun h1 => ?_
    rotate_left
    · walk_at "zd"
      refine iteT (bl_is ?_ (k H (Same.refl _)))
      have : decide (1 ≤ (ds.length : Int)) = false := decide_eq_false (by omega)
      simp only [isRows, this, Bool.false_and]
    walk_at "zd"
    refine iteN (fun h2 => ?_) fun h2 => ?_
    · refine bl_is ?_ (k H (Same.refl _))
      have h2' := of_decide_eq_false h2
      have : decide ((ds.length : Int) ≤ m) = false := decide_eq_false (by omega)
      simp only [isRows, this, Bool.false_and, Bool.and_false]
    have h2' := of_decide_eq_true h2
    refine comp_listL ((ds.map (madeOf sg)).map V.bl) (fun R r => r H (Same.refl H) hS) (by rw [List.length_map, List.length_map]; exact hn.symm) (by omega) ?_ fun D H1 hD s1 h3 => ?_
    · intro i x y hx hy H' s1 Q' q
      obtain ⟨e, he, hx'⟩ := hA.get hx
      rw [mapb_get he hy] at q
      refine ⟨x, e, sg, rfl, Th.mono s1 _ _ hx', ?_, q⟩
      exact Nat.le_trans (mem_weight (List.mem_of_getElem? he)) hw
    refine allL (b := ds.all (madeOf sg)) (sq_of h3) (by rw [List.all_map]; rfl) ?_
    walk_at "zd"
    refine iteN (fun h4 => bl_is ?_ (k H1 s1)) fun h4 => ?_
    · simp only [isRows, h4, Bool.false_and, Bool.and_false]
    cases ds with
    | nil =>
      rw [hn] at h1
      exact absurd h1 (by decide)
    | cons e ds =>
    obtain ⟨v0, e0', hv0⟩ := hA.at_ (i := 0) (d := e) rfl
    have m0 : madeOf sg e = true := by
      rw [List.all_cons] at h4
      exact (Bool.and_eq_true_iff.mp h4).1
    have allS : ∀ r ∈ (e :: ds), ∃ x, r = .str x ∧ x.length ≤ 20000 := fun r hr => by
      have h5 := List.all_eq_true.mp h4 r hr
      have h6 := mem_weight hr
      cases r with
      | str x => exact ⟨x, rfl, by simp only [PyData.weight] at h6; exact Nat.le_trans h6 hw⟩
      | _ => cases h5
    obtain ⟨x0, rfl, hx0⟩ := allS e List.mem_cons_self
    cases hv0
    refine ixN (j := 0) (s1.seq hS) e0' (lenS (line5 (by omega)) (leI (iteD (fun h5 => leI ?_) fun h5 => ?_)))
    rotate_left
    · refine iteF (bl_is ?_ (k H1 s1))
      have : decide (1 ≤ (slen ((PyData.str x0 :: ds).headD .none) : Int)) = false := decide_eq_false h5
      simp only [isRows, this, Bool.false_and, Bool.and_false]
    refine iteD (fun h6 => ?_) fun h6 => ?_
    rotate_left
    · refine bl_is ?_ (k H1 s1)
      have : decide ((slen ((PyData.str x0 :: ds).headD .none) : Int) ≤ m) = false := decide_eq_false h6
      simp only [isRows, this, Bool.false_and, Bool.and_false]
    refine comp_listL (((PyData.str x0 :: ds).map fun r => decide ((slen r : Int) = (x0.length : Int))).map V.bl) (fun R r => r H1 (Same.refl H1) (s1.seq hS)) (by rw [List.length_map, List.length_map]; exact hn.symm) (by omega) ?_ fun D2 H2 hD2 s2 h7 => ?_
    · intro i x y hx hy H' s' Q' q
      obtain ⟨r, he, hx'⟩ := hA.get hx
      rw [mapb_get he hy] at q
      obtain ⟨z, rfl, hz'⟩ := allS r (List.mem_of_getElem? he)
      cases hx'
      walk_at "zd"
      refine lenS (line5 (by omega)) (ixN (j := 0) (s'.seq (s1.seq hS)) e0' (lenS (line5 (by omega)) (eqI (q H' (Same.refl _)))))
    refine allL (sq_of h7) ?_ (k H2 (s1.trans s2))
    have a1 : decide (1 ≤ ((PyData.str x0 :: ds).length : Int)) = true := decide_eq_true (by omega)
    have a2 : decide (((PyData.str x0 :: ds).length : Int) ≤ m) = true := decide_eq_true (by omega)
    have a3 : decide (1 ≤ (slen ((PyData.str x0 :: ds).headD .none) : Int)) = true := decide_eq_true h5
    have a4 : decide ((slen ((PyData.str x0 :: ds).headD .none) : Int) ≤ m) = true := decide_eq_true h6
    simp only [isRows, a1, a2, a3, a4, h4, Bool.true_and, Bool.and_true]
    rw [List.all_map]
    rfl
theorem ok_piece (T : Tx K mg) (c_is_rows : Cg P w K mg base CX0 2 "is_rows" (spRows K)) (F : FunD K "is_piece" "is_piece" (defArgs s_is_piece) (defBody s_is_piece) (defScope s_is_piece) [] [] f fd) : FnG P w K mg base CX0 3 f fd ["thing"] (spPic K ((".abcdefghijklmnopqrstuvwxyz" : Str) ++ ("_" : Str))) := by
  refine FnG.of F sc_is_piece (fun vs H Q E h => ?_) (fun cdv A outer s H vs Q E hr gd h => ?_)
  · obtain ⟨v, d, rfl, _⟩ := h
    rfl
  · obtain ⟨v, d, rfl, hv, hz, k⟩ := h
    have hu : (A.deeper (envOfC "is_piece" (defScope s_is_piece) s.heap.objs.size f cdv)).units + 64 < cLine := by have := hr.un; omega
    refine ⟨_, PSs.nox (pss_one
    (ps_ret (pe_cg c_is_rows hr gd (by decide) (by rfl) pass0 (pa_cons (zv 0) (pa_cons (pe_op op_addZ (C8.pe_gc (by rfl) T.c_SIGNS) (C8.pe_gc (by rfl) T.c_LEFT_ALONE)) (pa_cons (C8.pe_gc (by rfl) T.c_MOST) pa_nil)))))), ?_⟩
    try dsimp only [cxOf, Cx.nox]
    show (tRet _) _ [some v] _
    walk_at "zd"
    exact addS (by decide +kernel) ⟨v, d, _, _, rfl, hv, hz, k⟩
theorem isRows_of {sg : Str} {rows : List Str} {w : Nat} (l1 : 1 ≤ rows.length) (l2 : rows.length ≤ 32) (w1 : 1 ≤ w) (w2 : w ≤ 32) (row : ∀ z ∈ rows, z.length = w ∧ z.cps.toList.all (inSg sg) = true) : isRows sg 32 (.list (rows.map .str)) = true := by
  cases rows with
  | nil => exact absurd l1 (by decide)
  | cons z0 rows =>
  have h0 := (row z0 List.mem_cons_self).1
  have e1 : (((z0 :: rows).map PyData.str).length : Int) = ((z0 :: rows).length : Int) := by rw [List.length_map]
  have a1 : decide (1 ≤ (((z0 :: rows).map PyData.str).length : Int)) = true := decide_eq_true (by omega)
  have a2 : decide ((((z0 :: rows).map PyData.str).length : Int) ≤ 32) = true := decide_eq_true (by omega)
  have a3 : decide (1 ≤ (slen (((z0 :: rows).map PyData.str).headD .none) : Int)) = true := decide_eq_true (by show 1 ≤ (z0.length : Int); omega)
  have a4 : decide ((slen (((z0 :: rows).map PyData.str).headD .none) : Int) ≤ 32) = true := decide_eq_true (by show (z0.length : Int) ≤ 32; omega)
  have a5 : ((z0 :: rows).map PyData.str).all (madeOf sg) = true := List.all_eq_true.mpr fun r hr => by
    obtain ⟨x, hx, rfl⟩ := List.mem_map.mp hr
    exact (row x hx).2
  have a6 : (((z0 :: rows).map PyData.str).all fun r => decide ((slen r : Int) = (slen (((z0 :: rows).map PyData.str).headD .none) : Int))) = true := List.all_eq_true.mpr fun r hr => by
    obtain ⟨x, hx, rfl⟩ := List.mem_map.mp hr
    refine decide_eq_true ?_
    show (x.length : Int) = (z0.length : Int)
    rw [(row x hx).1, h0]
  simp only [isRows, a1, a2, a3, a4, a5, a6, Bool.true_and]

theorem ok_pic (T : Tx K mg) (c_is_rows : Cg P w K mg base CX0 2 "is_rows" (spRows K)) (F : FunD K "is_picture" "is_picture" (defArgs s_is_picture) (defBody s_is_picture) (defScope s_is_picture) [] [] f fd) : FnG P w K mg base CX0 3 f fd ["thing"] (spPic K ".abcdefghijklmnopqrstuvwxyz") := by
  refine FnG.of F sc_is_picture (fun vs H Q E h => ?_) (fun cdv A outer s H vs Q E hr gd h => ?_)
  · obtain ⟨v, d, rfl, _⟩ := h
    rfl
  · obtain ⟨v, d, rfl, hv, hz, k⟩ := h
    have hu : (A.deeper (envOfC "is_picture" (defScope s_is_picture) s.heap.objs.size f cdv)).units + 64 < cLine := by have := hr.un; omega
    refine ⟨_, PSs.nox (pss_one
    (ps_ret (pe_cg c_is_rows hr gd (by decide) (by rfl) pass0 (pa_cons (zv 0) (pa_cons (C8.pe_gc (by rfl) T.c_SIGNS) (pa_cons (C8.pe_gc (by rfl) T.c_MOST) pa_nil)))))), ?_⟩
    try dsimp only [cxOf, Cx.nox]
    show (tRet _) _ [some v] _
    walk_at "zd"
    exact ⟨v, d, _, _, rfl, hv, hz, k⟩

/-! ### the law's own reading -/
def spAre (K : PySem.W.Frag) : Sp := fun vs H Q _ => ∃ v d sg, vs = [v, .str sg] ∧ Th K H v d ∧ d.weight ≤ 20000 ∧ (∀ ds x, d = .list ds → PyData.str x ∈ ds → okS x = true) ∧ ∀ H', Same H H' → Q (.bl (isRows sg 32 d)) H'
theorem all_false {α : Type} {f : α → Bool} {l : List α} {a : α} (m : a ∈ l) (h : f a = false) : l.all f = false := by
  cases e : l.all f with
  | false => rfl
  | true =>
    rw [List.all_eq_true.mp e a m] at h
    cases h
theorem ok_are (T : Tx K mg) (F : FunD K "_law_are" "_law_are" (defArgs s_law_are) (defBody s_law_are) (defScope s_law_are) [] [] f fd) : FnG P w K mg base CX0 1 f fd ["_law_thing", "_law_signs"] (spAre K) := by
  refine FnG.of F sc_law_are (fun vs H Q E h => ?_) (fun cdv A outer s H vs Q E hr gd h => ?_)
  · obtain ⟨v, d, sg, rfl, _⟩ := h
    rfl
  · obtain ⟨v, d, sg, rfl, hv, hz, hok, k⟩ := h
    have hu : (A.deeper (envOfC "_law_are" (defScope s_law_are) s.heap.objs.size f cdv)).units + 64 < cLine := by have := hr.un; omega
    refine ⟨_, PSs.nox (pss_cons
    (ps_if (PW.pt (pw_or (pt_not (pz_val (pe_callB (call_isiK K) (by rfl) T.isinstance (by decide +kernel) (pa_cons (zv 0) (pa_cons (pe_bltn (v := .ty "list") (by rfl) T.list (by decide +kernel) rfl) pa_nil))))) (pw_or (pz_cmp op_ltZ (pe_callB (call_lenK K) (by rfl) T.len (by decide +kernel) (pa_cons (zv 0) pa_nil)) pe_int (nomark _)) (pw_or1 (pz_cmp op_gtZ (pe_callB (call_lenK K) (by rfl) T.len (by decide +kernel) (pa_cons (zv 0) pa_nil)) pe_int (nomark _))))))
      (pss_one
        (ps_ret pe_bl))
      pss_nil)
    (pss_cons
    (ps_for PassesOwn.never rfl (pi_listK K (zv 0)) (pg_name (i := 2) sc_law_are.nd rfl (Or.inl rfl))
      (pss_one
        (ps_if (PW.pt (pw_or (pt_not (pz_val (pe_callB (call_isiK K) (by rfl) T.isinstance (by decide +kernel) (pa_cons (zv 2) (pa_cons (pe_bltn (v := .ty "str") (by rfl) T.str (by decide +kernel) rfl) pa_nil))))) (pw_or (pz_cmp op_ltZ (pe_callB (call_lenK K) (by rfl) T.len (by decide +kernel) (pa_cons (zv 2) pa_nil)) pe_int (nomark _)) (pw_or1 (pz_cmp op_gtZ (pe_callB (call_lenK K) (by rfl) T.len (by decide +kernel) (pa_cons (zv 2) pa_nil)) pe_int (nomark _))))))
          (pss_one
            (ps_ret pe_bl))
          pss_nil)))
    (pss_cons
    (ps_for PassesOwn.never rfl (pi_listK K (zv 0)) (pg_name (i := 2) sc_law_are.nd rfl (Or.inl rfl))
      (pss_one
        (ps_if (PW.pt (pw_or (pz_cmp (op_neK K hu) (pe_callB (call_lenK K) (by rfl) T.len (by decide +kernel) (pa_cons (zv 2) pa_nil)) (pe_callB (call_lenK K) (by rfl) T.len (by decide +kernel) (pa_cons (pe_ix (ix_K K) (zv 0) pe_int (fun _ _ => rfl)) pa_nil)) (nomark _)) (pw_or1 (pz_cmp (op_neK K hu) (pe_lc (own := [("_law_sign", 3)]) rfl sc_law_are.nd (pi_str (zv 2)) (blkOk_by (by kernel_rfl)) (fun _ _ _ _ _ => (pg_name (i := 3) sc_law_are.nd rfl (Or.inl rfl))) (fun _ _ _ _ _ => pts_one (pz_cmp (op_notInK K) (zv 3) (zv 1) (by with_unfolding_all rfl))) (fun _ _ _ _ _ => (zv 3))) (pe_lst pa_nil) (nomark _)))))
          (pss_one
            (ps_ret pe_bl))
          pss_nil)))
    (pss_one
    (ps_ret pe_bl))))), ?_⟩
    try dsimp only [cxOf, Cx.nox]
    show (tSeq _ _) _ [some v, some (.str sg), none, none] _
    walk_at "zd"
    refine isi_list hv (iteN (fun e0 => ?_) fun e0 => ?_)
    · exact bl_is (by cases d <;> simp_all [isList, isRows]) (k H (Same.refl _))
    obtain ⟨a, xs, ds, rfl, rfl, hS, hA⟩ := th_list hv e0
    have hw : PyData.weightAll ds ≤ 20000 := by simpa only [PyData.weight] using hz
    have hn : xs.length = ds.length := hA.len
    have hn2 := len_weight ds
    have no : ∀ H', Same H H' → isRows sg 32 (.list ds) = false → Q (.bl false) H' := fun H' s e => bl_is e.symm (k H' s)
    refine lenL hS rfl (ltI (iteD (fun h1 => iteT (no H (Same.refl _) ?_)) fun h1 => ?_))
    · have : decide (1 ≤ (ds.length : Int)) = false := decide_eq_false (by omega)
      simp only [isRows, this, Bool.false_and]
    refine lenL hS rfl (gtI (iteD (fun h2 => no H (Same.refl _) ?_) fun h2 => ?_))
    · have : decide ((ds.length : Int) ≤ 32) = false := decide_eq_false (by omega)
      simp only [isRows, this, Bool.false_and, Bool.and_false]
    -- every row is a text of 1 to 32 signs
    refine ⟨a, rfl, ⟨xs, hS⟩, for_list (K := K) (a := a) (xs := xs) (fun i σ H' => Same H H' ∧ (∃ y, σ = [some (V.ref a), some (V.str sg), y, none]) ∧ ∀ (j : Nat) r, j < i → ds[j]? = some r → ∃ x, r = .str x ∧ 1 ≤ x.length ∧ x.length ≤ 32)
      ⟨Same.refl _, ⟨_, rfl⟩, fun j r hj => absurd hj (Nat.not_lt_zero _)⟩ (fun i σ H' _ p => p.1.seq hS) ?_ ?_⟩
    · rintro i x σ H1 hx ⟨s1, ⟨y, rfl⟩, hp⟩
      obtain ⟨r, he, hx'⟩ := hA.get hx
      have hx1 := Th.mono s1 _ _ hx'
      have hm : r ∈ ds := List.mem_of_getElem? he
      walk_at "zd"
      refine isi_str hx1 (iteN (fun e1 => ?_) fun e1 => ?_)
      · refine no H1 s1 ?_
        have z : madeOf sg r = false := by cases r <;> first | rfl | cases e1
        simp only [isRows, all_false hm z, Bool.false_and, Bool.and_false]
      obtain ⟨z, rfl, rfl⟩ := th_str hx1 e1
      have hl : z.length ≤ 20000 := by
        have := mem_weight hm
        simp only [PyData.weight] at this
        exact Nat.le_trans this hw
      have bad : (¬ (1 ≤ (z.length : Int)) ∨ ¬ ((z.length : Int) ≤ 32)) → isRows sg 32 (.list ds) = false := fun hb => by
        cases e2 : isRows sg 32 (.list ds) with
        | false => rfl
        | true =>
          simp only [isRows, Bool.and_eq_true] at e2
          obtain ⟨_, _, ⟨b1, b2⟩, b3⟩ := e2
          have b4 := of_decide_eq_true (List.all_eq_true.mp b3 _ hm)
          have b1' := of_decide_eq_true b1
          have b2' := of_decide_eq_true b2
          have b5 : (slen (.str z) : Int) = (z.length : Int) := rfl
          omega
      refine lenS (line5 (by omega)) (ltI (iteD (fun h3 => iteT (no H1 s1 (bad (.inl (by omega))))) fun h3 => ?_))
      refine lenS (line5 (by omega)) (gtI (iteD (fun h4 => no H1 s1 (bad (.inr (by omega)))) fun h4 => ?_))
      refine ⟨s1, ⟨_, rfl⟩, fun j r hj hr => ?_⟩
      by_cases e : j = i
      · subst e
        rw [he] at hr
        cases hr
        exact ⟨z, rfl, by omega, by omega⟩
      · exact hp j r (by omega) hr
    rintro σ H1 ⟨s1, ⟨y, rfl⟩, hp⟩
    have allS : ∀ r ∈ ds, ∃ x, r = .str x ∧ 1 ≤ x.length ∧ x.length ≤ 32 := fun r hr => by
      obtain ⟨i, hi⟩ := List.getElem?_of_mem hr
      have : i < ds.length := (List.getElem?_eq_some_iff.mp hi).1
      exact hp i r (by omega) hi
    clear hp
    cases ds with
    | nil =>
      rw [hn] at h1
      exact absurd (show ((([] : List PyData).length : Nat) : Int) < 1 by decide) h1
    | cons r0 ds =>
    obtain ⟨x0, rfl, hx0, hx0'⟩ := allS r0 List.mem_cons_self
    obtain ⟨v0, hv0, tv0⟩ := hA.at_ (i := 0) (d := .str x0) rfl
    cases tv0
    refine ⟨a, rfl, ⟨xs, s1.seq hS⟩, for_list (K := K) (a := a) (xs := xs) (fun i σ H' => Same H H' ∧ (∃ y, σ = [some (V.ref a), some (V.str sg), y, none]) ∧ ∀ (j : Nat) r, j < i → (PyData.str x0 :: ds)[j]? = some r → slen r = x0.length ∧ madeOf sg r = true)
      ⟨s1, ⟨_, rfl⟩, fun j r hj => absurd hj (Nat.not_lt_zero _)⟩ (fun i σ H' _ p => p.1.seq hS) ?_ ?_⟩
    · rintro i x σ H2 hx ⟨s2, ⟨y, rfl⟩, hp⟩
      obtain ⟨r, he, hx'⟩ := hA.get hx
      have hm : r ∈ (PyData.str x0 :: ds) := List.mem_of_getElem? he
      obtain ⟨z, rfl, hz1, hz2⟩ := allS r hm
      cases hx'
      walk_at "zd"
      refine lenS (line5 (by omega)) (ixN (j := 0) (s2.seq hS) hv0 (lenS (line5 (by omega)) (eqI ?_)))
      refine iteN (fun h5 => ?_) fun h5 => ?_
      · refine iteT (no H2 s2 ?_)
        have z2 : decide ((slen (.str z) : Int) = (slen ((PyData.str x0 :: ds).headD .none) : Int)) = false := h5
        simp only [isRows, all_false (f := fun r => decide ((slen r : Int) = (slen ((PyData.str x0 :: ds).headD .none) : Int))) hm z2, Bool.and_false]
      have h5' : (z.length : Int) = (x0.length : Int) := of_decide_eq_true h5
      refine comp_strP (x := z) (fun v => onSigns (fun c => !inSg sg c) v) (fun v => v) (fun R r => r H2 (Same.refl H2)) (by omega) ?_ ?_ fun D H3 hD s3 h6 => ?_
      · intro y hy H' s' Q' q
        obtain ⟨c, hc, rfl⟩ := mem_signs hy
        walk_at "zd"
        refine inS (K := K) ?_
        have q' := q H' (Same.refl _)
        rw [onSigns1] at q'
        exact q'
      · intro y hy _ H' s' Q' q
        walk_at "zd"
        exact q H' (Same.refl _)
      rw [signs_filter] at h6
      refine ⟨by decide, fun N hN => ?_⟩
      have s4 : Same H3 (upd H3 N (.lst [])) := same_new hN
      have oks : okS z = true := hok _ z rfl hm
      refine eqStrs (l := (z.cps.toList.filter fun c => !inSg sg c).map one) (m := []) (sq_of (s4 _ _ h6)) (sq_of upd_same) (ok_ones oks _) (fun x m => nomatch m) ?_
      rw [filter_nil (inSg sg) z.cps.toList]
      have s5 := (s2.trans s3).trans s4
      refine iteN (fun h7 => no _ s5 ?_) fun h7 => ?_
      · have z2 : madeOf sg (.str z) = false := h7
        simp only [isRows, all_false hm z2, Bool.false_and, Bool.and_false]
      refine ⟨s5, ⟨_, rfl⟩, fun j r hj hr => ?_⟩
      by_cases e : j = i
      · subst e
        rw [he] at hr
        cases hr
        exact ⟨Int.ofNat_inj.mp h5', h7⟩
      · exact hp j r (by omega) hr
    rintro σ H2 ⟨s2, ⟨y, rfl⟩, hp⟩
    have all2 : ∀ r ∈ (PyData.str x0 :: ds), slen r = x0.length ∧ madeOf sg r = true := fun r hr => by
      obtain ⟨i, hi⟩ := List.getElem?_of_mem hr
      have : i < (PyData.str x0 :: ds).length := (List.getElem?_eq_some_iff.mp hi).1
      exact hp i r (by omega) hi
    walk_at "zd"
    refine bl_is ?_ (k H2 s2)
    have a1 : decide (1 ≤ ((PyData.str x0 :: ds).length : Int)) = true := decide_eq_true (by omega)
    have a2 : decide (((PyData.str x0 :: ds).length : Int) ≤ 32) = true := decide_eq_true (by omega)
    have a3 : decide (1 ≤ (slen ((PyData.str x0 :: ds).headD .none) : Int)) = true := decide_eq_true (by show 1 ≤ (x0.length : Int); omega)
    have a4 : decide ((slen ((PyData.str x0 :: ds).headD .none) : Int) ≤ 32) = true := decide_eq_true (by show (x0.length : Int) ≤ 32; omega)
    have a5 : (PyData.str x0 :: ds).all (madeOf sg) = true := List.all_eq_true.mpr fun r hr => (all2 r hr).2
    have a6 : ((PyData.str x0 :: ds).all fun r => decide ((slen r : Int) = (slen ((PyData.str x0 :: ds).headD .none) : Int))) = true := List.all_eq_true.mpr fun r hr => decide_eq_true (by rw [(all2 r hr).1]; rfl)
    simp only [isRows, a1, a2, a3, a4, a5, a6, Bool.true_and]

/-! ### the law's one look at a thing -/
theorem bl_eq {K : PySem.W.Frag} {f : Bool → Bool} {H : Hp} {Q : VK} {p q : Addr} {a b c d : Bool} (h1 : SqL K H p [.bl a, .bl b]) (h2 : SqL K H q [.bl c, .bl d])
    (k : Q (.bl (f (decide ([a, b] = [c, d])))) H) : rEqZ K f (.ref p) (.ref q) H Q := by
  refine ⟨.list [.bool a, .bool b], .list [.bool c, .bool d], .lst h1 (.cons (.bl a) (.cons (.bl b) .nil)), .lst h2 (.cons (.bl c) (.cons (.bl d) .nil)), by cases a <;> cases b <;> decide, by cases c <;> cases d <;> decide, ?_⟩
  have e : PyData.eqv (.list [.bool a, .bool b]) (.list [.bool c, .bool d]) = decide ([a, b] = [c, d]) := by cases a <;> cases b <;> cases c <;> cases d <;> decide
  rw [e]
  exact k
/-- what a thing has to be, to be looked at -/
structure Fit (d : PyData) : Prop where
  nice : Nice 20000 60 d
  ok : ∀ ds x, d = .list ds → PyData.str x ∈ ds → okS x = true
def spRight (K : PySem.W.Frag) : Sp := fun vs H Q _ => ∃ v d, vs = [v] ∧ Th K H v d ∧ Fit d ∧ ∀ H', Same H H' → Q (.bl true) H'
theorem ok_right (T : Tx K mg) (c_is_picture : Cg P w K mg base CX0 3 "is_picture" (spPic K ".abcdefghijklmnopqrstuvwxyz")) (c_is_piece : Cg P w K mg base CX0 3 "is_piece" (spPic K ".abcdefghijklmnopqrstuvwxyz_")) (c_law_are : Cg P w K mg base CX0 1 "_law_are" (spAre K)) (F : FunD K "_law_right" "_law_right" (defArgs s_law_right) (defBody s_law_right) (defScope s_law_right) [] [] f fd) : FnG P w K mg base CX0 4 f fd ["_law_thing"] (spRight K) := by
  refine FnG.of F sc_law_right (fun vs H Q E h => ?_) (fun cdv A outer s H vs Q E hr gd h => ?_)
  · obtain ⟨v, d, rfl, _⟩ := h
    rfl
  · obtain ⟨v, d, rfl, hv, hd, k⟩ := h
    have hu : (A.deeper (envOfC "_law_right" (defScope s_law_right) s.heap.objs.size f cdv)).units + 64 < cLine := by have := hr.un; omega
    refine ⟨_, PSs.nox (pss_cons
    (ps_set (i := 1) sc_law_right.nd rfl (Or.inl rfl) pe_str)
    (pss_cons
    (ps_set (i := 2) sc_law_right.nd rfl (Or.inl rfl) (pe_lst (pa_cons (pe_cg c_law_are hr gd (by decide) (by rfl) pass0 (pa_cons (zv 0) (pa_cons (zv 1) pa_nil))) (pa_cons (pe_cg c_law_are hr gd (by decide) (by rfl) pass0 (pa_cons (zv 0) (pa_cons (pe_op op_addZ (zv 1) pe_str) pa_nil))) pa_nil))))
    (pss_cons
    (ps_set (i := 3) sc_law_right.nd rfl (Or.inl rfl) (pe_callB (call_reprK K hu gd) (by rfl) T.repr (by decide +kernel) (pa_cons (zv 0) pa_nil)))
    (pss_cons
    (ps_for PassesOwn.never rfl (pi_range1 (by rfl) T.range (pa_cons pe_int pa_nil)) (pg_name (i := 4) sc_law_right.nd rfl (Or.inl rfl))
      (pss_cons
        (ps_set (i := 5) sc_law_right.nd rfl (Or.inl rfl) (pe_lst (pa_cons (pe_cg c_is_picture hr gd (by decide) (by rfl) pass0 (pa_cons (zv 0) pa_nil)) (pa_cons (pe_cg c_is_piece hr gd (by decide) (by rfl) pass0 (pa_cons (zv 0) pa_nil)) pa_nil))))
        (pss_one
        (ps_if (PW.pt (pw_or (pt_not (pz_val (pe_callB (call_allK K) (by rfl) T.all (by decide +kernel) (pa_cons (pe_lc (own := [("_law_one", 6)]) rfl sc_law_right.nd (pi_listK K (zv 5)) (blkOk_by (by kernel_rfl)) (fun _ _ _ _ _ => (pg_name (i := 6) sc_law_right.nd rfl (Or.inl rfl))) (fun _ _ _ _ _ => pts_nil) (fun _ _ _ _ _ => (pe_callB (call_isiK K) (by rfl) T.isinstance (by decide +kernel) (pa_cons (zv 6) (pa_cons (pe_bltn (v := .ty "bool") (by rfl) T.bool (by decide +kernel) rfl) pa_nil))))) pa_nil)))) (pw_or (pz_cmp (op_neK K hu) (zv 5) (zv 2) (nomark _)) (pw_or1 (pz_cmp (op_neK K hu) (pe_callB (call_reprK K hu gd) (by rfl) T.repr (by decide +kernel) (pa_cons (zv 0) pa_nil)) (zv 3) (nomark _))))))
          (pss_one
            (ps_ret pe_bl))
          pss_nil))))
    (pss_one
    (ps_ret pe_bl)))))), ?_⟩
    try dsimp only [cxOf, Cx.nox]
    show (tSeq _ _) _ [some v, none, none, none, none, none, none] _
    walk_at "zd"
    have hz := hd.nice.wt
    refine ⟨v, d, _, rfl, hv, hz, hd.ok, fun H1 s1 => ?_⟩
    walk_at "zd"
    have eS : (".abcdefghijklmnopqrstuvwxyz" : Str) ++ "_" = (".abcdefghijklmnopqrstuvwxyz_" : Str) := by decide
    refine addS (by decide) ?_
    rw [eS]
    refine ⟨v, d, _, rfl, Th.mono s1 _ _ hv, hz, hd.ok, fun H2 s2 => ⟨line5 (show 2 ≤ 100000 by decide), fun N hN => ?_⟩⟩
    have s3 := (s1.trans s2).trans (same_new (o := .lst [.bl (isRows ".abcdefghijklmnopqrstuvwxyz" 32 d), .bl (isRows ".abcdefghijklmnopqrstuvwxyz_" 32 d)]) hN)
    have eN : SqL K (upd H2 N (.lst [.bl (isRows ".abcdefghijklmnopqrstuvwxyz" 32 d), .bl (isRows ".abcdefghijklmnopqrstuvwxyz_" 32 d)])) N [.bl (isRows ".abcdefghijklmnopqrstuvwxyz" 32 d), .bl (isRows ".abcdefghijklmnopqrstuvwxyz_" 32 d)] := sq_of upd_same
    revert s3 eN
    generalize upd H2 N _ = H3
    generalize e1 : isRows ".abcdefghijklmnopqrstuvwxyz" 32 d = b1
    generalize e2 : isRows ".abcdefghijklmnopqrstuvwxyz_" 32 d = b2
    intro s3 eN
    refine repr_nice (Th.mono s3 _ _ hv) hd.nice (by omega) (by omega) ?_
    refine ⟨2, rfl, by decide, by decide, for_range (fun i σ H' => Same H3 H' ∧ ∃ x y, σ = [some v, some (.str ".abcdefghijklmnopqrstuvwxyz"), some (.ref N), some (.str d.shown), x, y, none]) ⟨Same.refl _, _, _, rfl⟩ ?_ ?_⟩
    · rintro i σ H4 _ ⟨s4, x, y, rfl⟩
      walk_at "zd"
      have s5 := s3.trans s4
      refine ⟨v, d, rfl, Th.mono s5 _ _ hv, hz, fun H5 s6 => ⟨v, d, rfl, Th.mono (s5.trans s6) _ _ hv, hz, fun H6 s7 => ⟨line5 (show 2 ≤ 100000 by decide), fun M hM => ?_⟩⟩⟩
      rw [e1, e2]
      have s8 := (s6.trans s7).trans (same_new (o := .lst [.bl b1, .bl b2]) hM)
      have eM : SqL K (upd H6 M (.lst [.bl b1, .bl b2])) M [.bl b1, .bl b2] := sq_of upd_same
      revert s8 eM
      generalize upd H6 M _ = H7
      intro s8 eM
      refine comp_list (xs := [.bl b1, .bl b2]) (a := M) (fun _ => .bl true) (fun R r => r H7 (Same.refl H7) eM) (show 2 ≤ 100000 by decide) ?_ fun D H8 hD s9 h9 => ?_
      · intro y hy H' s' Q' q
        walk_at "zd"
        have : ∃ b, y = .bl b := by
          rcases List.mem_cons.mp hy with rfl | hy
          · exact ⟨_, rfl⟩
          · exact ⟨_, List.mem_singleton.mp hy⟩
        obtain ⟨b, rfl⟩ := this
        exact isi_bool (.bl b) (q H' (Same.refl _))
      refine allL (bs := [true, true]) (b := true) (sq_of h9) rfl ?_
      walk_at "zd"
      refine iteN (fun z => by cases z) fun _ => ?_
      have s10 := (s4.trans s8).trans s9
      refine bl_eq (s9.seq eM) (s10.seq eN) ?_
      rw [decide_eq_true (show [b1, b2] = [b1, b2] from rfl)]
      refine iteN (fun z => by cases z) fun _ => ?_
      refine repr_nice (Th.mono (s3.trans s10) _ _ hv) hd.nice (by omega) (by omega) ?_
      refine eqS ?_
      rw [decide_eq_true (show d.shown = d.shown from rfl)]
      refine iteN (fun z => by cases z) fun _ => ?_
      exact ⟨s10, _, _, rfl⟩
    · rintro σ H4 ⟨s4, x, y, rfl⟩
      walk_at "zd"
      exact k _ (s3.trans s4)

/-! ### the bag -/
def spBag (K : PySem.W.Frag) : Sp := fun vs H Q _ => ∃ (a : Addr) (ns : List Int), vs = [.ref a] ∧ SqL K H a (ns.map V.int) ∧ ns.length ≤ 63 ∧ ∀ (ω : Bg) (H' : Hp), Same H H' → Bag K H' ω → H ω.b = none → Q (.ref ω.b) H'
theorem ok_bag (T : Tx K mg) (F : FunD K "_law_bag" "_law_bag" (defArgs s_law_bag) (defBody s_law_bag) (defScope s_law_bag) [] [] f fd) : FnG P w K mg base CX0 1 f fd ["_law_script"] (spBag K) := by
  refine FnG.of F sc_law_bag (fun vs H Q E h => ?_) (fun cdv A outer s H vs Q E hr gd h => ?_)
  · obtain ⟨a, ns, rfl, _⟩ := h
    rfl
  · obtain ⟨a, ns, rfl, hS, hn, k⟩ := h
    have hu : (A.deeper (envOfC "_law_bag" (defScope s_law_bag) s.heap.objs.size f cdv)).units + 64 < cLine := by have := hr.un; omega
    refine ⟨_, PSs.nox (pss_one
    (ps_ret (pe_lst (pa_cons pe_int (pa_cons pe_int (pa_cons pe_int (pa_cons (pe_lc (own := [("_law_cell", 1)]) rfl sc_law_bag.nd (pi_listK K (pe_slice (sl_K K) (zv 0) po_none (po_some pe_int))) (blkOk_by (by kernel_rfl)) (fun _ _ _ _ _ => (pg_name (i := 1) sc_law_bag.nd rfl (Or.inl rfl))) (fun _ _ _ _ _ => pts_nil) (fun _ _ _ _ _ => (pe_callB call_absZ (by rfl) T.abs (by decide +kernel) (pa_cons (zv 1) pa_nil)))) pa_nil))))))), ?_⟩
    try dsimp only [cxOf, Cx.nox]
    show (tRet _) _ [some (.ref a), none] _
    walk_at "zd"
    refine comp_listF (K := K) (xs := ns.map V.int) (fun x => match x with
      | .int i => .int (if i < 0 then -i else i)
      | x => x) (fun R r => ?_) (by rw [List.length_map]; omega) ?_ fun D H2 hD s2 h2 => ?_
    · refine ⟨63, rfl, slL hS fun p hp => ?_⟩
      have e : cutV (ns.map V.int) none (some 63) = ns.map V.int := (cut_to _ 63).trans (List.take_of_length_le (by rw [List.length_map]; omega))
      rw [e]
      exact r p _ (same_new hp) (sq_of upd_same)
    · intro y hy H' s' Q' q
      obtain ⟨i, hi, rfl⟩ := List.mem_map.mp hy
      walk_at "zd"
      exact q H' (Same.refl _)
    refine ⟨line5 (show 4 ≤ 100000 by decide), fun p hp => ?_⟩
    have np : D ≠ p := fun e => by
      rw [e, hp] at h2
      cases h2
    refine k ⟨p, D, ns.map fun i => if i < 0 then -i else i⟩ _ (s2.trans (same_new hp)) ⟨0, 1234567891, 0, upd_same, ?_, np, by decide, by decide, by decide, fun z hz => ?_⟩ (s2.free hp)
    · refine sq_of ?_
      rw [upd_ne np, h2, List.map_map, List.map_map]
      rfl
    · obtain ⟨i, _, rfl⟩ := List.mem_map.mp hz
      split <;> omega

/-! ### what is drawn -/
def sgP : Str := ".abcdefghijklmnopqrstuvwxyz_"
def spMenu (K : PySem.W.Frag) : Sp := fun vs H Q _ => ∃ (ω : Bg), vs = [.ref ω.b] ∧ Bag K H ω ∧ ∀ (x : Str) (H' : Hp), 1 ≤ x.length → x.length ≤ 28 → x.cps.toList.all (inSg sgP) = true → Bag K H' ω → Go ω.b H H' → Q (.str x) H'
theorem ok_menu (T : Tx K mg) (c_law_take : Cg P w K mg base CX0 1 "_law_take" (spTake K)) (F : FunD K "_law_menu" "_law_menu" (defArgs s_law_menu) (defBody s_law_menu) (defScope s_law_menu) [] [] f fd) : FnG P w K mg base CX0 2 f fd ["_law_bag_here"] (spMenu K) := by
  refine FnG.of F sc_law_menu (fun vs H Q E h => ?_) (fun cdv A outer s H vs Q E hr gd h => ?_)
  · obtain ⟨ω, rfl, _⟩ := h
    rfl
  · obtain ⟨ω, rfl, wd, k⟩ := h
    have hu : (A.deeper (envOfC "_law_menu" (defScope s_law_menu) s.heap.objs.size f cdv)).units + 64 < cLine := by have := hr.un; omega
    refine ⟨_, PSs.nox (pss_cons
    (ps_set (i := 1) sc_law_menu.nd rfl (Or.inl rfl) (pe_lst (pa_cons pe_str (pa_cons pe_str (pa_cons pe_str (pa_cons pe_str (pa_cons pe_str (pa_cons pe_str (pa_cons pe_str (pa_cons pe_str pa_nil))))))))))
    (pss_one
    (ps_ret (pe_ix (ix_K K) (zv 1) (pe_cg c_law_take hr gd (by decide) (by rfl) pass0 (pa_cons (zv 0) (pa_cons pe_int pa_nil))) (fun _ _ => rfl))))), ?_⟩
    try dsimp only [cxOf, Cx.nox]
    show (tSeq _ _) _ [some (.ref ω.b), none] _
    walk_at "zd"
    refine ⟨line5 (show 8 ≤ 100000 by decide), fun p hp => ?_⟩
    refine take_at (wd.same (same_new hp)) upd_same (bag_ne wd hp) rfl (by decide) (by decide) fun x hx H' g go => ?_
    have kk : ∀ z : Str, 1 ≤ z.length → z.length ≤ 28 → z.cps.toList.all (inSg sgP) = true → Q (.str z) H' := fun z a b c => k z H' a b c g ((Go.of (same_new hp)).trans go)
    simp only [List.mem_cons, List.not_mem_nil, or_false] at hx
    rcases hx with rfl | rfl | rfl | rfl | rfl | rfl | rfl | rfl <;> exact kk _ (by decide) (by decide) (by decide)
theorem sgP_128 {c : Nat} (h : inSg sgP c = true) : c < 128 := by
  have z : ∀ d ∈ sgP.cps.toList, d < 128 := by decide
  exact z c (of_decide_eq_true h)
theorem sgP_ok {x : Str} (h : x.cps.toList.all (inSg sgP) = true) : okT x = true := List.all_eq_true.mpr fun c m => decide_eq_true (sgP_128 (List.all_eq_true.mp h c m))

/-! ### rows, drawn -/
structure RowOk (Pc : Nat → Bool) (y : V) (n : Nat) : Prop where
  is : ∃ x : Str, y = .str x ∧ x.length = n ∧ x.cps.toList.all Pc = true
def spLRows (K : PySem.W.Frag) : Sp := fun vs H Q _ => ∃ B ω sg, ∃ (M : Nat) (Pc : Nat → Bool), vs = [.ref ω.b, .str sg, .int M] ∧ 5 ≤ M ∧ M ≤ 33 ∧ Wd K B ω H ∧ 1 ≤ sg.length ∧ sg.length ≤ 28 ∧ sg.cps.toList.all Pc = true ∧
  ∀ (p : Addr) (acc : List V) (n : Nat) (H' : Hp), H p = none → 1 ≤ n → n ≤ M → 1 ≤ acc.length → acc.length ≤ M → (∀ y, y ∈ acc → RowOk Pc y n) → H' p = some (.lst acc) → Bag K H' ω → Go ω.b H H' → Q (.ref p) H'
theorem ok_lrows (T : Tx K mg) (c_law_take : Cg P w K mg base CX0 1 "_law_take" (spTake K)) (F : FunD K "_law_rows" "_law_rows" (defArgs s_law_rows) (defBody s_law_rows) (defScope s_law_rows) [] [] f fd) : FnG P w K mg base CX0 2 f fd ["_law_bag_here", "_law_signs", "_law_most"] (spLRows K) := by
  refine FnG.of F sc_law_rows (fun vs H Q E h => ?_) (fun cdv A outer s H vs Q E hr gd h => ?_)
  · obtain ⟨B, ω, sg, M, Pc, rfl, _⟩ := h
    rfl
  · obtain ⟨B, ω, sg, M, Pc, rfl, hM1, hM2, wd, hs1, hs2, hs3, k⟩ := h
    have hu : (A.deeper (envOfC "_law_rows" (defScope s_law_rows) s.heap.objs.size f cdv)).units + 64 < cLine := by have := hr.un; omega
    refine ⟨_, PSs.nox (pss_cons
    (ps_set (i := 3) sc_law_rows.nd rfl (Or.inr rfl) (pe_lc (own := [("_law_k", 4)]) rfl sc_law_rows.nd (pi_range1 (by rfl) T.range (pa_cons pe_int pa_nil)) (blkOk_by (by kernel_rfl)) (fun _ _ _ _ _ => (pg_name (i := 4) sc_law_rows.nd rfl (Or.inl rfl))) (fun _ _ _ _ _ => pts_nil) (fun _ _ _ _ _ => (pe_ix (ix_K K) (pe_lst (pa_cons (pe_op op_addZ pe_int (pe_cg c_law_take hr gd (by decide) (by rfl) pass0 (pa_cons (zv 0) (pa_cons pe_int pa_nil)))) (pa_cons (pe_op op_addZ pe_int (pe_cg c_law_take hr gd (by decide) (by rfl) pass0 (pa_cons (zv 0) (pa_cons (zv 2) pa_nil)))) (pa_cons pe_int (pa_cons (zv 2) pa_nil))))) (pe_cg c_law_take hr gd (by decide) (by rfl) pass0 (pa_cons (zv 0) (pa_cons pe_int pa_nil))) (fun _ _ => rfl)))))
    (C8.pss_cut
    (ps_if (PW.pt (pw_and (pz_cmp op_gtZ (pe_op op_mulZ (pe_ix (ix_K K) (zv 3) pe_int (fun _ _ => rfl)) (pe_ix (ix_K K) (zv 3) pe_int (fun _ _ => rfl))) pe_int (nomark _)) (pw_and1 (pz_cmp op_gtZ (pe_cg c_law_take hr gd (by decide) (by rfl) pass0 (pa_cons (zv 0) (pa_cons pe_int pa_nil))) pe_int (nomark _)))))
      (pss_one
        (ps_asg (pe_op op_addZ pe_int (pe_cg c_law_take hr gd (by decide) (by rfl) pass0 (pa_cons (zv 0) (pa_cons pe_int pa_nil)))) (pg_sub (zv 3) pe_int set_Z)))
      pss_nil)
    (pss_one
    (ps_ret (pe_lc (own := [("_law_j", 5)]) rfl sc_law_rows.nd (pi_range1 (by rfl) T.range (pa_cons (pe_ix (ix_K K) (zv 3) pe_int (fun _ _ => rfl)) pa_nil)) (blkOk_by (by kernel_rfl)) (fun _ _ _ _ _ => (pg_name (i := 5) sc_law_rows.nd rfl (Or.inl rfl))) (fun _ _ _ _ _ => pts_nil) (fun _ _ _ _ _ => (pe_joinK K pe_str (pe_lc (own := [("_law_k", 4)]) rfl sc_law_rows.nd (pi_range1 (by rfl) T.range (pa_cons (pe_ix (ix_K K) (zv 3) pe_int (fun _ _ => rfl)) pa_nil)) (blkOk_by (by kernel_rfl)) (fun _ _ _ _ _ => (pg_name (i := 4) sc_law_rows.nd rfl (Or.inl rfl))) (fun _ _ _ _ _ => pts_nil) (fun _ _ _ _ _ => (pe_ix (ix_K K) (zv 1) (pe_cg c_law_take hr gd (by decide) (by rfl) pass0 (pa_cons (zv 0) (pa_cons (pe_callB (call_lenK K) (by rfl) T.len (by decide +kernel) (pa_cons (zv 1) pa_nil)) pa_nil))) (fun _ _ => rfl))))))))))), ?_⟩
    try dsimp only [cxOf, Cx.nox]
    show (tSeq _ _) _ [some (.ref ω.b), some (.str sg), some (.int (M : Int)), none, none, none] _
    walk_at "zd"
    refine comp_rngD B wd (fun _ y _ => ∃ v : Int, y = .int v ∧ 1 ≤ v ∧ v ≤ (M : Int)) (fun _ _ _ _ _ h => h) 2 (by decide) (fun R r => r) ?_ ?_
    · intro i B1 H1 hi hB s1 w1 Q' q
      walk_at "zd"
      refine take_n w1.bag (by decide) (by decide) fun j1 H2 h2 g2 go2 => addI ?_
      refine take_n g2 (by omega) (by omega) fun j2 H3 h3 g3 go3 => addI ?_
      refine ⟨line5 (show 4 ≤ 100000 by decide), fun p hp => ?_⟩
      refine take_at (g3.same (same_new hp)) upd_same (bag_ne g3 hp) rfl (by decide) (by decide) fun x hx H4 g4 go4 => ?_
      refine q x H4 g4 (((go2.trans go3).trans (Go.of (same_new hp))).trans go4) ?_
      simp only [List.mem_cons, List.not_mem_nil, or_false] at hx
      rcases hx with rfl | rfl | rfl | rfl
      · exact ⟨_, rfl, by omega, by omega⟩
      · exact ⟨_, rfl, by omega, by omega⟩
      · exact ⟨_, rfl, by omega, by omega⟩
      · exact ⟨_, rfl, by omega, by omega⟩
    intro D acc H1 hD hl hP w1 go1 h1
    obtain ⟨y0, y1, rfl⟩ : ∃ y0 y1, acc = [y0, y1] := by
      match acc, hl with
      | [a, b], _ => exact ⟨a, b, rfl⟩
    obtain ⟨a, rfl, ha1, ha2⟩ := hP 0 y0 rfl
    obtain ⟨b, rfl, hb1, hb2⟩ := hP 1 y1 rfl
    clear hP
    obtain ⟨a, rfl⟩ := Int.eq_ofNat_of_zero_le (a := a) (by omega)
    walk_at "zd"
    refine ⟨fun σ' H' => ∃ b' : Nat, σ' = [some (.ref ω.b), some (.str sg), some (.int (M : Int)), some (.ref D), none, none] ∧ Bag K H' ω ∧ Go ω.b H H' ∧ H' D = some (.lst [.int a, .int b']) ∧ 1 ≤ b' ∧ b' ≤ M, ?_, ?_⟩
    · have nx : ∀ H', Bag K H' ω → Go ω.b H H' → H' D = some (.lst [.int a, .int b]) → ∃ b' : Nat, [some (V.ref ω.b), some (.str sg), some (.int (M : Int)), some (.ref D), none, none] = [some (V.ref ω.b), some (.str sg), some (.int (M : Int)), some (.ref D), none, none] ∧ Bag K H' ω ∧ Go ω.b H H' ∧ H' D = some (.lst [.int a, .int b']) ∧ 1 ≤ b' ∧ b' ≤ M := fun H' g go h => by
        obtain ⟨b, rfl⟩ := Int.eq_ofNat_of_zero_le (a := b) (by omega)
        exact ⟨b, rfl, g, go, h, by omega, by omega⟩
      have nD : D ≠ ω.b := bag_ne wd.bag hD
      walk_at "zd"
      refine ixL (sq_of h1) rfl (ixL (sq_of h1) rfl (mulI (.inl (.inr ⟨by omega, by omega⟩)) (gtI (iteD (fun _ => ?_) fun _ => nx _ w1.bag go1 h1))))
      refine take_n w1.bag (by decide) (by decide) fun j2 H2 h2 g2 go2 => gtI (iteD (fun _ => ?_) fun _ => nx _ g2 (go1.trans go2) (go2 _ _ nD h1))
      walk_at "zd"
      refine take_n g2 (by decide) (by decide) fun j3 H3 h3 g3 go3 => addI ?_
      have d3 : H3 D = some (.lst [.int a, .int b]) := go3 _ _ nD (go2 _ _ nD h1)
      refine ⟨_, d3, ⟨by decide, show (1 : Int) < 2 by decide⟩, ?_⟩
      refine ⟨1 + j3, rfl, bag_mut wd.bag hD g3, go_new ((go1.trans go2).trans go3) hD, ?_, by omega, by omega⟩
      rw [upd_same]
      rfl
    rintro σ' H2 ⟨b, rfl, g2, go2, d2, hb3, hb4⟩
    have w2 := wd.go g2 go2
    walk_at "zd"
    refine comp_rngD B w2 (fun _ y _ => RowOk Pc y a) (fun _ _ _ _ _ h => h) b (by omega) (fun R r => ixL (sq_of d2) rfl r) ?_ ?_
    · intro i B1 H3 hi hB s3 w3 Q' q
      walk_at "zd"
      have d3 : H3 D = some (.lst [.int a, .int b]) := hd_same _ _ _ _ (s3 _ _ (hd_of (wd.off hD) d2))
      refine ⟨⟨_, rfl⟩, comp_rngD B1 w3 (fun _ y _ => ∃ c, y = .str (one c) ∧ Pc c = true) (fun _ _ _ _ _ h => h) a (by omega) (fun R r => ixL (sq_of d3) rfl r) ?_ ?_⟩
      · intro i' B2 H4 hi' hB' s4 w4 Q2 q2
        walk_at "zd"
        refine lenS (line5 (by omega)) ?_
        refine take_n w4.bag (by omega) (by omega) fun j H5 h5 g5 go5 => ?_
        refine ixS (line5 (by omega)) (by omega) fun c hc => ?_
        exact q2 _ _ g5 go5 ⟨c, rfl, List.all_eq_true.mp hs3 c hc⟩
      · intro D2 acc H4 hD2 hl2 hP2 w4 go4 h4
        obtain ⟨cs, rfl, hcs⟩ := items_of (mk := fun c => V.str (one c)) (P := fun c => Pc c = true) (mem_of_get hP2)
        rw [List.length_map] at hl2
        have e : cs.map (fun c => V.str (one c)) = (cs.map one).map V.str := by rw [List.map_map]; rfl
        rw [e] at h4
        refine joinI (sq_of h4) (by rw [sum_ones]; show cs.length + (cs.map one).length * 0 ≤ _; omega) ?_
        rw [join_1s]
        refine q _ _ w4.bag go4 ⟨_, rfl, by rw [SX.S_len]; exact hl2, List.all_eq_true.mpr fun c m => ?_⟩
        exact hcs c (by simpa using m)
    · intro D2 acc H3 hD2 hl2 hP2 w3 go3 h3
      exact k D2 acc a H3 (free_go g2 go2 hD2) (by omega) (by omega) (by omega) (by omega) (mem_of_get hP2) h3 w3.bag (go2.trans go3)

/-! ### rows spoilt -/
/-- what stands in rows -/
structure El (W : Nat) (d : PyData) : Prop where
  nice : Nice W 2 d
  txt : ∀ x, d = .str x → okT x = true ∧ x.length ≤ W
  nd : d.hasDict = false
theorem El.mono {W W' : Nat} {d : PyData} (h : El W d) (e : W ≤ W') : El W' d := ⟨h.nice.mono e (Nat.le_refl _), fun x z => ⟨(h.txt x z).1, Nat.le_trans (h.txt x z).2 e⟩, h.nd⟩
theorem el_str {W : Nat} {x : Str} (h : okT x = true) (e : x.length ≤ W) : El W (.str x) := ⟨nice_str (okT_okS h) e 2, fun y z => by cases z; exact ⟨h, e⟩, by simp only [PyData.hasDict]⟩
theorem nd_all : ∀ {ds : List PyData}, (∀ d ∈ ds, PyData.hasDict d = false) → PyData.hasDictAll ds = false
  | [], _ => by simp only [PyData.hasDictAll]
  | d :: ds, h => by simp only [PyData.hasDictAll, h d List.mem_cons_self, nd_all fun e m => h e (List.mem_cons_of_mem _ m), Bool.or_self]
theorem El.none (W : Nat) : El W .none := ⟨nice_none W 2, fun _ z => (nomatch z), by simp only [PyData.hasDict]⟩
theorem El.bool (W : Nat) (b : Bool) : El W (.bool b) := ⟨nice_bool W 2 b, fun _ z => (nomatch z), by simp only [PyData.hasDict]⟩
theorem El.int (W : Nat) (i : Int) (h : Nice W 2 (.int i)) : El W (.int i) := ⟨h, fun _ z => (nomatch z), by simp only [PyData.hasDict]⟩
theorem el_strs {W : Nat} (hW : 33 ≤ W) {l : List Str} (h : ∀ x ∈ l, okT x = true ∧ x.length ≤ 1) (e : l.length ≤ 3) : El W (.list (l.map .str)) ∧ El W (.tuple (l.map .str)) := by
  have a1 : ∀ d ∈ l.map PyData.str, Nice 10 1 d := fun d m => by
    obtain ⟨x, hx, rfl⟩ := List.mem_map.mp m
    exact nice_str (okT_okS (h x hx).1) (Nat.le_trans (h x hx).2 (by decide)) 1
  have a2 : PyData.hasDictAll (l.map PyData.str) = false := nd_all fun d m => by
    obtain ⟨x, _, rfl⟩ := List.mem_map.mp m
    simp only [PyData.hasDict]
  have a3 : (l.map PyData.str).length * (10 + 1) ≤ W := by rw [List.length_map]; omega
  exact ⟨⟨Nice.list a1 a3, fun _ z => (nomatch z), by simpa only [PyData.hasDict] using a2⟩, ⟨Nice.tuple a1 a3, fun _ z => (nomatch z), by simpa only [PyData.hasDict] using a2⟩⟩
theorem nice_int5 {W : Nat} (h : 33 ≤ W) : Nice W 2 (.int 5) := ⟨by decide, by decide, Nat.le_trans (show PyData.weight (.int 5) ≤ 33 by decide) h, by decide, fun _ => by decide⟩
theorem nice_int7 {W : Nat} (h : 33 ≤ W) : Nice W 2 (.int 7) := ⟨by decide, by decide, Nat.le_trans (show PyData.weight (.int 7) ≤ 33 by decide) h, by decide, fun _ => by decide⟩
theorem th_l {K : PySem.W.Frag} {B : Addr → Bool} {H : Hp} {p : Addr} {l : List Str} (h : H p = some (.lst (l.map V.str))) (b : B p = false) : Th K (hd B H) (.ref p) (.list (l.map .str)) := .lst (sq_of (hd_of b h)) (ThA.strs l)
theorem th_t {K : PySem.W.Frag} {B : Addr → Bool} {H : Hp} {p : Addr} {l : List Str} (h : H p = some (.tup (l.map V.str))) (b : B p = false) : Th K (hd B H) (.ref p) (.tuple (l.map .str)) := .tup (st_of (hd_of b h)) (ThA.strs l)
theorem thA_rep {K : PySem.W.Frag} {H : Hp} {vs : List V} {ds : List PyData} (h : ThA K H vs ds) : ∀ n, ThA K H (List.replicate n vs).flatten (List.replicate n ds).flatten
  | 0 => .nil
  | n + 1 => by
    rw [List.replicate_succ, List.replicate_succ, List.flatten_cons, List.flatten_cons]
    exact ThA.app h (thA_rep h n)
theorem rep_len {α : Type} (l : List α) : ∀ n, ((List.replicate n l).flatten).length = n * l.length
  | 0 => by simp
  | n + 1 => by
    rw [List.replicate_succ, List.flatten_cons, List.length_append, rep_len l n, Nat.succ_mul, Nat.add_comm]
theorem rep_mem {α : Type} {l : List α} {x : α} : ∀ {n}, x ∈ (List.replicate n l).flatten → x ∈ l
  | 0, m => by simp at m
  | n + 1, m => by
    rw [List.replicate_succ, List.flatten_cons] at m
    rcases List.mem_append.mp m with m | m
    · exact m
    · exact rep_mem m
theorem shaped_nice {R : Nat} {d : PyData} (h : Nice R 60 d) (e : d.hasDict = false) : SeqAt.shaped d = true := by
  show (PyData.canLay0 d && decide (PyData.depth d ≤ 64)) = true
  rw [h.ly e, decide_eq_true (Nat.le_trans h.dp (by decide))]
  rfl
theorem eqv_nil (ds : List PyData) : PyData.eqv (.list ds) (.list []) = decide (ds = []) := by
  cases ds <;> simp [PyData.eqv, PyData.eqvAll]
structure Bent (k : Nat) (ds : List PyData) : Prop where
  len : ds.length ≤ 33 + 33 * k
  el : ∀ d ∈ ds, El (33 + 2 * k) d
theorem Bent.nice {k : Nat} {ds : List PyData} (h : Bent k ds) (e : k ≤ 3) : Nice 20000 3 (.list ds) := Nice.list (R := 40) (n := 2) (fun d m => (h.el d m).nice.mono (by omega) (Nat.le_refl _)) (by have := h.len; omega)
theorem Bent.nd {k : Nat} {ds : List PyData} (h : Bent k ds) : PyData.hasDict (.list ds) = false := by
  simp only [PyData.hasDict]
  exact nd_all fun d m => (h.el d m).nd
def spSpoilt (K : PySem.W.Frag) : Sp := fun vs H Q _ => ∃ B ω p xs ds k, vs = [.ref ω.b, .ref p] ∧ Wd K B ω H ∧ SqL K (hd B H) p xs ∧ ThA K (hd B H) xs ds ∧ Bent k ds ∧ k < 3 ∧
  ∀ (p' : Addr) xs' ds' H', H p' = none → H' p' = some (.lst xs') → ThA K (hd B H') xs' ds' → Bent (k + 1) ds' → Bag K H' ω → Go ω.b H H' → Q (.ref p') H'
theorem ok_spoilt (T : Tx K mg) (c_law_take : Cg P w K mg base CX0 1 "_law_take" (spTake K)) (F : FunD K "_law_spoilt" "_law_spoilt" (defArgs s_law_spoilt) (defBody s_law_spoilt) (defScope s_law_spoilt) [] [] f fd) : FnG P w K mg base CX0 2 f fd ["_law_bag_here", "_law_rows_here"] (spSpoilt K) := by
  refine FnG.of F sc_law_spoilt (fun vs H Q E h => ?_) (fun cdv A outer s H vs Q E hr gd h => ?_)
  · obtain ⟨B, ω, p, xs, ds, k, rfl, _⟩ := h
    rfl
  · obtain ⟨B, ω, p, xs, ds, n, rfl, wd, hS, hA, hb, hn, k⟩ := h
    have hu : (A.deeper (envOfC "_law_spoilt" (defScope s_law_spoilt) s.heap.objs.size f cdv)).units + 64 < cLine := by have := hr.un; omega
    refine ⟨_, PSs.nox (pss_cons
    (ps_set (i := 1) sc_law_spoilt.nd rfl (Or.inl rfl) (pe_callTy (call_listK K) (by rfl) T.list (by decide +kernel) (pa_cons (zv 1) pa_nil)))
    (pss_cons
    (ps_if (pz_cmp (op_eqK K hu) (zv 1) (pe_lst pa_nil) (nomark _))
      (pss_one
        (ps_ret (pe_lst (pa_cons (pe_ix (ix_K K) (pe_lst (pa_cons pe_str (pa_cons pe_str (pa_cons pe_str pa_nil)))) (pe_cg c_law_take hr gd (by decide) (by rfl) pass0 (pa_cons (zv 0) (pa_cons pe_int pa_nil))) (fun _ _ => rfl)) pa_nil))))
      pss_nil)
    (pss_cons
    (ps_set (i := 2) sc_law_spoilt.nd rfl (Or.inl rfl) (pe_cg c_law_take hr gd (by decide) (by rfl) pass0 (pa_cons (zv 0) (pa_cons (pe_callB (call_lenK K) (by rfl) T.len (by decide +kernel) (pa_cons (zv 1) pa_nil)) pa_nil))))
    (pss_cons
    (ps_set (i := 3) sc_law_spoilt.nd rfl (Or.inl rfl) (pe_cg c_law_take hr gd (by decide) (by rfl) pass0 (pa_cons (zv 0) (pa_cons pe_int pa_nil))))
    (C8.pss_cut
    (ps_if (PW.pt (pw_and (pz_cmp op_ltZ (zv 3) pe_int (nomark _)) (pw_and1 (pz_val (pe_callB (call_isiK K) (by rfl) T.isinstance (by decide +kernel) (pa_cons (pe_ix (ix_K K) (zv 1) (zv 2) (fun _ _ => rfl)) (pa_cons (pe_bltn (v := .ty "str") (by rfl) T.str (by decide +kernel) rfl) pa_nil)))))))
      (pss_cons
        (ps_set (i := 4) sc_law_spoilt.nd rfl (Or.inl rfl) (pe_cg c_law_take hr gd (by decide) (by rfl) pass0 (pa_cons (zv 0) (pa_cons (pe_op op_addZ (pe_callB (call_lenK K) (by rfl) T.len (by decide +kernel) (pa_cons (pe_ix (ix_K K) (zv 1) (zv 2) (fun _ _ => rfl)) pa_nil)) pe_int) pa_nil))))
        (pss_cons
        (ps_set (i := 5) sc_law_spoilt.nd rfl (Or.inl rfl) (pe_ix (ix_K K) (pe_lst (pa_cons pe_str (pa_cons pe_str (pa_cons pe_str (pa_cons pe_str (pa_cons pe_str (pa_cons pe_str (pa_cons pe_str (pa_cons pe_str (pa_cons pe_str (pa_cons pe_str (pa_cons pe_str (pa_cons pe_str pa_nil))))))))))))) (pe_cg c_law_take hr gd (by decide) (by rfl) pass0 (pa_cons (zv 0) (pa_cons pe_int pa_nil))) (fun _ _ => rfl)))
        (pss_cons
        (ps_set (i := 6) sc_law_spoilt.nd rfl (Or.inl rfl) (pe_ix (ix_K K) (zv 1) (zv 2) (fun _ _ => rfl)))
        (pss_one
        (ps_asg (pe_op op_addZ (pe_op op_addZ (pe_slice (sl_K K) (zv 6) po_none (po_some (zv 4))) (zv 5)) (pe_slice (sl_K K) (zv 6) (po_some (pe_op op_addZ (zv 4) (pe_callTy call_intZ (by rfl) T.int (by decide +kernel) (pa_cons (pe_cmpR op_ltZ (zv 3) pe_int (nomark _)) pa_nil)))) po_none)) (pg_sub (zv 1) (zv 2) set_Z))))))
      (pss_one
        (ps_if (pz_cmp (op_eqK K hu) (zv 3) pe_int (nomark _))
          (pss_one
            (ps_set (i := 1) sc_law_spoilt.nd rfl (Or.inl rfl) (pe_op op_addZ (pe_slice (sl_K K) (zv 1) po_none (po_some (zv 2))) (pe_slice (sl_K K) (zv 1) (po_some (pe_op op_addZ (zv 2) pe_int)) po_none))))
          (pss_one
            (ps_if (pz_cmp (op_eqK K hu) (zv 3) pe_int (nomark _))
              (pss_cons
                (ps_set (i := 7) sc_law_spoilt.nd rfl (Or.inl rfl) (pe_lst (pa_cons pe_non (pa_cons pe_str (pa_cons (pe_lst (pa_cons pe_str pa_nil)) (pa_cons (pe_tup (pa_cons pe_str pa_nil)) (pa_cons pe_int (pa_cons pe_bl pa_nil))))))))
                (pss_one
                (ps_set (i := 1) sc_law_spoilt.nd rfl (Or.inl rfl) (pe_op op_addZ (pe_op op_addZ (pe_slice (sl_K K) (zv 1) po_none (po_some (zv 2))) (pe_lst (pa_cons (pe_ix (ix_K K) (zv 7) (pe_cg c_law_take hr gd (by decide) (by rfl) pass0 (pa_cons (zv 0) (pa_cons pe_int pa_nil))) (fun _ _ => rfl)) pa_nil))) (pe_slice (sl_K K) (zv 1) (po_some (zv 2)) po_none)))))
              (pss_one
                (ps_if (pz_cmp (op_eqK K hu) (zv 3) pe_int (nomark _))
                  (pss_one
                    (ps_asg (pe_ix (ix_K K) (pe_lst (pa_cons pe_non (pa_cons pe_str (pa_cons pe_int (pa_cons (pe_callTy (call_listK K) (by rfl) T.list (by decide +kernel) (pa_cons pe_str pa_nil)) (pa_cons (pe_tup (pa_cons pe_str pa_nil)) pa_nil)))))) (pe_cg c_law_take hr gd (by decide) (by rfl) pass0 (pa_cons (zv 0) (pa_cons pe_int pa_nil))) (fun _ _ => rfl)) (pg_sub (zv 1) (zv 2) set_Z)))
                  (pss_one
                    (ps_if (pz_cmp (op_eqK K hu) (zv 3) pe_int (nomark _))
                      (pss_one
                        (ps_set (i := 1) sc_law_spoilt.nd rfl (Or.inl rfl) (pe_op op_addZ (zv 1) (pe_op op_mulZ (pe_slice (sl_K K) (zv 1) (po_some (zv 2)) (po_some (pe_op op_addZ (zv 2) pe_int))) (pe_cg c_law_take hr gd (by decide) (by rfl) pass0 (pa_cons (zv 0) (pa_cons pe_int pa_nil)))))))
                      (pss_one
                        (ps_if (PW.pt (pw_and (pz_cmp (op_eqK K hu) (zv 3) pe_int (nomark _)) (pw_and1 (pz_val (pe_callB (call_isiK K) (by rfl) T.isinstance (by decide +kernel) (pa_cons (pe_ix (ix_K K) (zv 1) (zv 2) (fun _ _ => rfl)) (pa_cons (pe_bltn (v := .ty "str") (by rfl) T.str (by decide +kernel) rfl) pa_nil)))))))
                          (pss_one
                            (ps_asg (pe_slice (sl_K K) (pe_op op_addZ (pe_ix (ix_K K) (zv 1) (zv 2) (fun _ _ => rfl)) (pe_op op_mulZ pe_str pe_int)) po_none (po_some (pe_cg c_law_take hr gd (by decide) (by rfl) pass0 (pa_cons (zv 0) (pa_cons pe_int pa_nil))))) (pg_sub (zv 1) (zv 2) set_Z)))
                          pss_nil)))))))))))
    (pss_one
    (ps_ret (zv 1)))))))), ?_⟩
    try dsimp only [cxOf, Cx.nox]
    show (tSeq _ _) _ [some (.ref ω.b), some (.ref p), none, none, none, none, none, none] _
    walk_at "zd"
    have hH := hd_same B H
    refine ⟨xs, .inl (hH.seq hS), fun D hD => ⟨line5 (Nat.zero_le _), fun N hN => ?_⟩⟩
    have bD : B D = false := wd.off hD
    have nD : D ≠ ω.b := bag_ne wd.bag hD
    have nN : N ≠ D := fun e => by
      rw [e, upd_same] at hN
      cases hN
    have s1 := same_new (o := .lst xs) hD
    have s2 := s1.trans (same_new (o := .lst []) hN)
    have hlen : xs.length = ds.length := hA.len
    have hdl := hb.len
    have d2 : upd (upd H D (.lst xs)) N (.lst []) D = some (.lst xs) := by rw [upd_ne (Ne.symm nN), upd_same]
    have g2 := wd.bag.same s2
    have n2 : upd (upd H D (.lst xs)) N (.lst []) N = some (.lst []) := upd_same
    have e2 : Same (hd B H) (hd (hide D B) (upd (upd H D (.lst xs)) N (.lst []))) := (hide_new hD).trans (Same.hd (same_new hN))
    have dp := ThA.dp ds xs (ThA.mono ((hide_sub D B _).trans (hd_same B _)) _ _ (ThA.mono e2 _ _ hA)) (by simpa only [PyData.hasDict] using hb.nd)
    refine ⟨.list ds, .list [], .lst (sq_of d2) dp, .lst (sq_of n2) .nil, shaped_nice ((hb.nice (by omega)).mono (Nat.le_refl _) (by decide)) hb.nd, by decide, ?_⟩
    rw [eqv_nil]
    revert d2 g2 e2
    generalize upd (upd H D (.lst xs)) N (.lst []) = H1 at *
    intro d2 g2 e2
    refine iteD (fun e0 => ?_) fun e0 => ?_
    · refine ⟨line5 (show 3 ≤ 100000 by decide), fun p1 hp1 => ?_⟩
      refine take_at (g2.same (same_new hp1)) upd_same (bag_ne g2 hp1) rfl (by decide) (by decide) fun x hx H3 g3 go3 => ⟨line5 (show 1 ≤ 100000 by decide), fun p2 hp2 => ?_⟩
      have go := ((Go.of s2).trans (Go.of (same_new hp1))).trans go3
      obtain ⟨y, rfl, hy1, hy2⟩ : ∃ y : Str, x = .str y ∧ okT y = true ∧ y.length ≤ 2 := by
        simp only [List.mem_cons, List.not_mem_nil, or_false] at hx
        rcases hx with rfl | rfl | rfl <;> exact ⟨_, rfl, by decide, by decide⟩
      refine k p2 [.str y] [.str y] _ (free_go g3 go hp2) upd_same (.cons (.str y) .nil) ⟨by show 1 ≤ _; omega, fun d m => ?_⟩ (g3.same (same_new hp2)) (go.trans (Go.of (same_new hp2)))
      rw [List.mem_singleton.mp m]
      exact el_str hy1 (by omega)
    have hl0 : 0 < ds.length := by
      cases ds with
      | nil => exact absurd rfl e0
      | cons d ds => exact Nat.succ_pos _
    refine lenL (sq_of d2) rfl ?_
    refine take_n g2 (by omega) (by omega) fun a H3 ha g3 go3 => ?_
    refine take_n g3 (by decide) (by decide) fun w H4 hw g4 go4 => ?_
    have go5 := go3.trans go4
    have d4 : H4 D = some (.lst xs) := go5 _ _ nD d2
    have w2 : Wd K (hide D B) ω H1 := (wd.same s2).more d2
    have hA4 : ThA K (hd (hide D B) H4) xs ds := ThA.mono (e2.trans (go5.hd w2.hb)) _ _ hA
    have gH := (Go.of s2).trans go5
    have w4 : Wd K B ω H4 := wd.go g4 gH
    have w4' : Wd K (hide D B) ω H4 := w4.more d4
    have ha' : a < ds.length := by omega
    have ha2 : a < xs.length := by omega
    clear s1 s2 nN dp hN e2 hS hA d2 g2 go3 go4 g3 n2 hl0 go5 w2
    obtain ⟨v, hv⟩ : ∃ v, xs[a]? = some v := ⟨_, List.getElem?_eq_getElem ha2⟩
    obtain ⟨d, hd1, hd2⟩ := hA4.get hv
    have hel := hb.el d (List.mem_of_getElem? hd1)
    -- what each way leaves
    refine ⟨fun σ' H' => ∃ p' xs' ds' s2 s3 s4 s5 s6 s7, σ' = [some (.ref ω.b), some (.ref p'), s2, s3, s4, s5, s6, s7] ∧ H p' = none ∧ H' p' = some (.lst xs') ∧ ThA K (hd B H') xs' ds' ∧ Bent (n + 1) ds' ∧ Bag K H' ω ∧ Go ω.b H H', ?_, ?_⟩
    rotate_left
    · rintro σ' H' ⟨p', xs', ds', s2, s3, s4, s5, s6, s7, rfl, q1, q2, q3, q4, q5, q6⟩
      walk_at "zd"
      exact k p' xs' ds' H' q1 q2 q3 q4 q5 q6
    have isS : ∀ R : Bool → Hp → Prop, R (isStr d) H4 → rIxZ K (.ref D) (.int (a : Int)) H4 fun x H2 => rIsiZ K [x, .ty "str"] H2 fun u H3 => match u with | .bl b => R b H3 | _ => False := fun R r => ixN (sq_of d4) hv (isi_str (Th.mono (hd_same _ _) _ _ hd2) r)
    -- a row put otherwise
    have setF : ∀ (y : V) (e : PyData) (H5 : Hp), Bag K H5 ω → Go ω.b H4 H5 → Th K (hd (hide D B) H5) y e → El (33 + 2 * (n + 1)) e →
        H D = none ∧ upd H5 D (.lst (xs.set a y)) D = some (.lst (xs.set a y)) ∧ ThA K (hd B (upd H5 D (.lst (xs.set a y)))) (xs.set a y) (ds.set a e) ∧ Bent (n + 1) (ds.set a e) ∧ Bag K (upd H5 D (.lst (xs.set a y))) ω ∧ Go ω.b H (upd H5 D (.lst (xs.set a y))) := fun y e H5 g5 go5 he hel5 => by
      refine ⟨hD, upd_same, ?_, ⟨by rw [List.length_set]; omega, fun u m => ?_⟩, bag_mut wd.bag hD g5, go_new (gH.trans go5) hD⟩
      · refine ThA.mono ((hide_same D B H5).trans (hide_sub D B _)) _ _ ?_
        exact ThA.set a (ThA.mono (go5.hd w4'.hb) _ _ hA4) he
      · rcases List.mem_or_eq_of_mem_set m with m | rfl
        · exact (hb.el u m).mono (by omega)
        · exact hel5
    refine ifS_and (decide ((w : Int) < 4)) (isStr d) (fun R r => r) (fun _ => isS) (fun _ e1 => ?_) ?_
    · obtain ⟨z, rfl, rfl⟩ := th_str hd2 e1
      obtain ⟨hz1, hz2⟩ := hel.txt z rfl
      walk_at "zd"
      refine ixN (sq_of d4) hv (lenS (line5 (by omega)) (addI (take_n g4 (by omega) (by omega) fun b H5 hb5 g5 go5 => ⟨line5 (show 12 ≤ 100000 by decide), fun p1 hp1 => ?_⟩)))
      refine take_at (g5.same (same_new hp1)) upd_same (bag_ne g5 hp1) rfl (by decide) (by decide) fun x hx H6 g6 go6 => ?_
      have go7 := (go5.trans (Go.of (same_new hp1))).trans go6
      obtain ⟨y, rfl, hy1, hy2⟩ : ∃ y : Str, x = .str y ∧ okT y = true ∧ y.length ≤ 2 := by
        simp only [List.mem_cons, List.not_mem_nil, or_false] at hx
        rcases hx with rfl | rfl | rfl | rfl | rfl | rfl | rfl | rfl | rfl | rfl | rfl | rfl <;> exact ⟨_, rfl, by decide, by decide⟩
      have h1 : (Txt.slice z none (some (b : Int))).length = min b z.length := len_to z (by omega)
      obtain ⟨c, hc1, hc2⟩ : ∃ c : Int, (b : Int) + (if decide ((w : Int) < 3) = true then 1 else 0) = c ∧ (b : Int) ≤ c := ⟨_, rfl, by split <;> omega⟩
      have h2 : (Txt.slice z (some c) none).length = z.length - c.toNat := len_from z (by omega)
      have h3 := lenCat (Txt.slice z none (some (b : Int))) y
      have h4 := lenCat (Txt.slice z none (some (b : Int)) ++ y) (Txt.slice z (some c) none)
      refine ixN (sq_of (go7 _ _ nD d4)) hv ⟨_, rfl, ⟨line5 (by omega), addS (line5 (by omega)) (ltI ?_)⟩⟩
      refine addI ⟨_, rfl, ⟨line5 (by omega), ?_⟩⟩
      rw [hc1]
      refine addS (line5 (by omega)) ⟨_, go7 _ _ nD d4, ⟨by omega, by omega⟩, ?_⟩
      obtain ⟨q1, q2, q3, q4, q5, q6⟩ := setF _ _ H6 g6 go7 (.str (Txt.slice z none (some (b : Int)) ++ y ++ Txt.slice z (some c) none)) (el_str (okT_cat (okT_cat (okT_to hz1 (by omega)) hy1) (okT_from hz1 (by omega))) (by omega))
      exact ⟨D, _, _, _, _, _, _, _, _, rfl, q1, q2, q3, q4, q5, q6⟩
    refine ifS_at (decide ((w : Int) = 4)) (fun R r => by walk_at "zd"; exact eqI r) (fun _ => ?_) fun _ => ?_
    · walk_at "zd"
      refine ⟨_, rfl, slL (sq_of d4) fun p1 hp1 => addI ?_⟩
      have n1 : p1 ≠ D := fun e => by
        rw [e, d4] at hp1
        cases hp1
      refine ⟨_, rfl, slL (sq_of (by rw [upd_ne (Ne.symm n1)]; exact d4)) fun p2 hp2 => ?_⟩
      have n2 : p2 ≠ p1 := fun e => by
        rw [e, upd_same] at hp2
        cases hp2
      have n4 : p1 ≠ p2 := fun e => n2 e.symm
      have c1 : cutV xs none (some (a : Int)) = xs.take a := cut_to xs a
      have c2 : cutV xs (some ((a : Int) + 1)) none = xs.drop (a + 1) := cut_from xs (a + 1)
      rw [c1, c2]
      rw [c1] at hp2
      refine catL (xs := xs.take a) (ys := xs.drop (a + 1)) (by rw [upd_ne n4, upd_same]) upd_same (by rw [List.length_take, List.length_drop]; omega) fun p3 hp3 => ?_
      have s3 := ((same_new (o := .lst (xs.take a)) hp1).trans (same_new (o := .lst (xs.drop (a + 1))) hp2)).trans (same_new (o := .lst (xs.take a ++ xs.drop (a + 1))) hp3)
      refine ⟨p3, xs.take a ++ xs.drop (a + 1), ds.take a ++ ds.drop (a + 1), _, _, _, _, _, _, rfl, free_go g4 gH (((same_new hp1).trans (same_new hp2)).free hp3), upd_same, ?_, ⟨?_, fun u m => ?_⟩, g4.same s3, gH.trans (Go.of s3)⟩
      · exact ThA.mono (Same.hd s3) _ _ (ThA.mono (hide_sub D B _) _ _ (ThA.app (ThA.take a hA4) (ThA.drop (a + 1) hA4)))
      · rw [List.length_append, List.length_take, List.length_drop]; omega
      · rcases List.mem_append.mp m with m | m
        · exact (hb.el u (List.mem_of_mem_take m)).mono (by omega)
        · exact (hb.el u (List.mem_of_mem_drop m)).mono (by omega)
    refine ifS_at (decide ((w : Int) = 5)) (fun R r => by walk_at "zd"; exact eqI r) (fun _ => ?_) fun _ => ?_
    · walk_at "zd"
      refine ⟨line5 (show 1 ≤ 100000 by decide), fun q1 hq1 => ⟨line5 (show 1 ≤ 100000 by decide), fun q2 hq2 => ⟨line5 (show 6 ≤ 100000 by decide), fun q3 hq3 => ?_⟩⟩⟩
      have sA := same_new (o := .lst [.str "."]) hq1
      have sB := sA.trans (same_new (o := .tup [.str "."]) hq2)
      have sC := sB.trans (same_new (o := .lst [V.non, .str "", .ref q1, .ref q2, .int 5, .bl true]) hq3)
      have f1 := same_new (o := .lst [V.non, .str "", .ref q1, .ref q2, .int 5, .bl true]) hq3 _ _ (same_new (o := .tup [.str "."]) hq2 q1 _ upd_same)
      have f2 := same_new (o := .lst [V.non, .str "", .ref q1, .ref q2, .int 5, .bl true]) hq3 q2 _ upd_same
      have f3 : upd (upd (upd H4 q1 (.lst [.str "."])) q2 (.tup [.str "."])) q3 (.lst [V.non, .str "", .ref q1, .ref q2, .int 5, .bl true]) q3 = _ := upd_same
      have b1 := w4'.off hq1
      have b2 := w4'.off (sA.free hq2)
      revert sC f1 f2 f3
      generalize upd (upd (upd H4 q1 (.lst [.str "."])) q2 (.tup [.str "."])) q3 (.lst [V.non, .str "", .ref q1, .ref q2, .int 5, .bl true]) = H5 at *
      intro sC f1 f2 f3
      have c1 : cutV xs none (some (a : Int)) = xs.take a := cut_to xs a
      have c2 : cutV xs (some (a : Int)) none = xs.drop a := cut_from xs a
      refine ⟨_, rfl, slL (sq_of (sC _ _ d4)) fun p1 hp1 => ?_⟩
      rw [c1]
      have s6 := same_new (o := .lst (xs.take a)) hp1
      have e6 : upd H5 p1 (.lst (xs.take a)) p1 = _ := upd_same
      have g6 := g4.same (sC.trans s6)
      revert s6 e6 g6
      generalize upd H5 p1 (.lst (xs.take a)) = H6 at *
      intro s6 e6 g6
      have off6 : ∀ {q}, H6 q = none → q ≠ ω.b := fun h => bag_ne g6 h
      have n3 : q3 ≠ ω.b := bag_ne (g4.same sB) hq3
      have n1 : q1 ≠ ω.b := bag_ne g4 hq1
      have n2 : q2 ≠ ω.b := bag_ne (g4.same sA) hq2
      have n4 : p1 ≠ ω.b := bag_ne (g4.same sC) hp1
      refine take_at g6 (s6 _ _ f3) n3 rfl (by decide) (by decide) fun x hx H7 g7 go7 => ?_
      obtain ⟨e, he1, he2⟩ : ∃ e, Th K (hd (hide D B) H7) x e ∧ El (33 + 2 * (n + 1)) e := by
        have m1 := go7 _ _ n1 (s6 _ _ f1)
        have m2 := go7 _ _ n2 (s6 _ _ f2)
        simp only [List.mem_cons, List.not_mem_nil, or_false] at hx
        rcases hx with rfl | rfl | rfl | rfl | rfl | rfl
        · exact ⟨_, .non, El.none _⟩
        · exact ⟨_, .str _, el_str (by decide) (Nat.zero_le _)⟩
        · exact ⟨_, th_l (l := ["."]) m1 b1, (el_strs (by omega) (by decide) (by decide)).1⟩
        · exact ⟨_, th_t (l := ["."]) m2 b2, (el_strs (by omega) (by decide) (by decide)).2⟩
        · exact ⟨_, .int _, El.int _ _ (nice_int5 (by omega))⟩
        · exact ⟨_, .bl _, El.bool _ _⟩
      refine ⟨line5 (show 1 ≤ 100000 by decide), fun p2 hp2 => ?_⟩
      have e7 := go7 _ _ n4 e6
      have d7 := go7 _ _ nD ((sC.trans s6) _ _ d4)
      have s8 := same_new (o := .lst [x]) hp2
      refine catL (s8 _ _ e7) upd_same (by show _ + 1 ≤ _; rw [List.length_take]; omega) fun p3 hp3 => ?_
      have s9 := s8.trans (same_new (o := .lst (xs.take a ++ [x])) hp3)
      refine ⟨_, rfl, slL (sq_of (s9 _ _ d7)) fun p4 hp4 => ?_⟩
      rw [c2]
      have s10 := same_new (o := .lst (xs.drop a)) hp4
      refine catL (s10 _ _ upd_same) upd_same (by rw [List.length_append, List.length_take, List.length_drop]; show _ + 1 + _ ≤ _; omega) fun p5 hp5 => ?_
      have s11 := (s9.trans s10).trans (same_new (o := .lst ((xs.take a ++ [x]) ++ xs.drop a)) hp5)
      have go8 : Go ω.b H4 H7 := (Go.of (sC.trans s6)).trans go7
      have go9 := go8.trans (Go.of s11)
      refine ⟨p5, (xs.take a ++ [x]) ++ xs.drop a, (ds.take a ++ [e]) ++ ds.drop a, _, _, _, _, _, _, rfl, free_go g4 gH (free_go g7 go8 ((s9.trans s10).free hp5)), upd_same, ?_, ⟨?_, fun u m => ?_⟩, g7.same s11, gH.trans go9⟩
      · have hA7 := ThA.mono (go8.hd w4'.hb) _ _ hA4
        exact ThA.mono ((hide_sub D B _).trans (Same.hd s11)) _ _ (ThA.app (ThA.app (ThA.take a hA7) (.cons he1 .nil)) (ThA.drop a hA7))
      · rw [List.length_append, List.length_append, List.length_take, List.length_drop]
        show _ + 1 + _ ≤ _
        omega
      · rcases List.mem_append.mp m with m | m
        · rcases List.mem_append.mp m with m | m
          · exact (hb.el u (List.mem_of_mem_take m)).mono (by omega)
          · rw [List.mem_singleton.mp m]
            exact he2
        · exact (hb.el u (List.mem_of_mem_drop m)).mono (by omega)
    refine ifS_at (decide ((w : Int) = 6)) (fun R r => by walk_at "zd"; exact eqI r) (fun _ => ?_) fun _ => ?_
    · walk_at "zd"
      refine ⟨by decide, fun q1 hq1 => ⟨line5 (show 1 ≤ 100000 by decide), fun q2 hq2 => ⟨line5 (show 5 ≤ 100000 by decide), fun q3 hq3 => ?_⟩⟩⟩
      have sA := same_new (o := .lst (signsV "ab")) hq1
      have sB := sA.trans (same_new (o := .tup [.str "a"]) hq2)
      have sC := sB.trans (same_new (o := .lst [V.non, .str "", .int 7, .ref q1, .ref q2]) hq3)
      have f1 := same_new (o := .lst [V.non, .str "", .int 7, .ref q1, .ref q2]) hq3 _ _ (same_new (o := .tup [.str "a"]) hq2 q1 _ upd_same)
      have f2 := same_new (o := .lst [V.non, .str "", .int 7, .ref q1, .ref q2]) hq3 q2 _ upd_same
      have f3 : upd (upd (upd H4 q1 (.lst (signsV "ab"))) q2 (.tup [.str "a"])) q3 (.lst [V.non, .str "", .int 7, .ref q1, .ref q2]) q3 = _ := upd_same
      have b1 := w4'.off hq1
      have b2 := w4'.off (sA.free hq2)
      have n3 : q3 ≠ ω.b := bag_ne (g4.same sB) hq3
      have n1 : q1 ≠ ω.b := bag_ne g4 hq1
      have n2 : q2 ≠ ω.b := bag_ne (g4.same sA) hq2
      revert sC f1 f2 f3
      generalize upd (upd (upd H4 q1 (.lst (signsV "ab"))) q2 (.tup [.str "a"])) q3 (.lst [V.non, .str "", .int 7, .ref q1, .ref q2]) = H5 at *
      intro sC f1 f2 f3
      refine take_at (g4.same sC) f3 n3 rfl (by decide) (by decide) fun x hx H7 g7 go7 => ?_
      have go8 : Go ω.b H4 H7 := (Go.of sC).trans go7
      obtain ⟨e, he1, he2⟩ : ∃ e, Th K (hd (hide D B) H7) x e ∧ El (33 + 2 * (n + 1)) e := by
        have m1 := go7 _ _ n1 f1
        have m2 := go7 _ _ n2 f2
        simp only [List.mem_cons, List.not_mem_nil, or_false] at hx
        rcases hx with rfl | rfl | rfl | rfl | rfl
        · exact ⟨_, .non, El.none _⟩
        · exact ⟨_, .str _, el_str (by decide) (Nat.zero_le _)⟩
        · exact ⟨_, .int _, El.int _ _ (nice_int7 (by omega))⟩
        · exact ⟨_, th_l (l := ["a", "b"]) m1 b1, (el_strs (by omega) (by decide) (by decide)).1⟩
        · exact ⟨_, th_t (l := ["a"]) m2 b2, (el_strs (by omega) (by decide) (by decide)).2⟩
      refine ⟨_, go8 _ _ nD d4, ⟨by omega, by omega⟩, ?_⟩
      obtain ⟨q1, q2, q3, q4, q5, q6⟩ := setF _ _ H7 g7 go8 he1 he2
      exact ⟨D, _, _, _, _, _, _, _, _, rfl, q1, q2, q3, q4, q5, q6⟩
    refine ifS_at (decide ((w : Int) = 7)) (fun R r => by walk_at "zd"; exact eqI r) (fun _ => ?_) fun _ => ?_
    · walk_at "zd"
      refine ⟨_, rfl, addI ⟨_, rfl, slL (sq_of d4) fun p1 hp1 => ?_⟩⟩
      have c1 : cutV xs (some (a : Int)) (some ((a : Int) + 1)) = (xs.drop a).take 1 := by
        have := cut_mid xs a (a + 1) (by omega)
        rwa [Nat.add_sub_cancel_left] at this
      rw [c1]
      have s5 := same_new (o := .lst ((xs.drop a).take 1)) hp1
      have n1 : p1 ≠ ω.b := bag_ne g4 hp1
      refine take_n (g4.same s5) (by decide) (by decide) fun j H5 hj g5 go5 => ?_
      have go6 : Go ω.b H4 H5 := (Go.of s5).trans go5
      have l1 : ((xs.drop a).take 1).length ≤ 1 := List.length_take_le _ _
      have l2 := rep_len ((xs.drop a).take 1) j
      have l3 : j * ((xs.drop a).take 1).length ≤ j * 1 := Nat.mul_le_mul_left _ l1
      refine ⟨_, go5 _ _ n1 upd_same, by omega, by omega, ?_, fun p2 hp2 => ?_⟩
      · rw [Int.toNat_natCast, Nat.mul_comm]
        exact line5 (by omega)
      rw [Int.toNat_natCast]
      have s6 := same_new (o := .lst (List.replicate j ((xs.drop a).take 1)).flatten) hp2
      refine catL (s6 _ _ (go6 _ _ nD d4)) upd_same (by omega) fun p3 hp3 => ?_
      have s7 := s6.trans (same_new (o := .lst (xs ++ (List.replicate j ((xs.drop a).take 1)).flatten)) hp3)
      refine ⟨p3, _, ds ++ (List.replicate j ((ds.drop a).take 1)).flatten, _, _, _, _, _, _, rfl, free_go g4 gH (free_go g5 go6 (s6.free hp3)), upd_same, ?_, ⟨?_, fun u m => ?_⟩, g5.same s7, (gH.trans go6).trans (Go.of s7)⟩
      · have hA7 := ThA.mono (go6.hd w4'.hb) _ _ hA4
        exact ThA.mono ((hide_sub D B _).trans (Same.hd s7)) _ _ (ThA.app hA7 (thA_rep (ThA.take 1 (ThA.drop a hA7)) j))
      · have l4 := rep_len ((ds.drop a).take 1) j
        have l5 : j * ((ds.drop a).take 1).length ≤ j * 1 := Nat.mul_le_mul_left _ (List.length_take_le _ _)
        rw [List.length_append]
        omega
      · rcases List.mem_append.mp m with m | m
        · exact (hb.el u m).mono (by omega)
        · exact (hb.el u (List.mem_of_mem_drop (List.mem_of_mem_take (rep_mem m)))).mono (by omega)
    refine ifS_and (decide ((w : Int) = 8)) (isStr d) (fun R r => by walk_at "zd"; exact eqI r) (fun _ => isS) (fun _ e1 => ?_) ?_
    · obtain ⟨z, rfl, rfl⟩ := th_str hd2 e1
      obtain ⟨hz1, hz2⟩ := hel.txt z rfl
      walk_at "zd"
      have hm1 : okT (Txt.mul "a" 33) = true := by decide
      have hm2 : (Txt.mul "a" 33).length = 33 := by decide
      have hm3 := lenCat z (Txt.mul "a" 33)
      refine ixN (sq_of d4) hv ⟨⟨by decide, by decide, by decide⟩, addS (line5 (by omega)) ?_⟩
      refine take_n g4 (by decide) (by decide) fun j H5 hj g5 go5 => ⟨_, rfl, ⟨line5 (by omega), ?_⟩⟩
      refine ⟨_, go5 _ _ nD d4, ⟨by omega, by omega⟩, ?_⟩
      have hm4 := len_to (z ++ Txt.mul "a" 33) (i := (j : Int)) (by omega)
      obtain ⟨q1, q2, q3, q4, q5, q6⟩ := setF _ _ H5 g5 go5 (.str (Txt.slice (z ++ Txt.mul "a" 33) none (some (j : Int)))) (el_str (okT_to (okT_cat hz1 hm1) (by omega)) (by omega))
      exact ⟨D, _, _, _, _, _, _, _, _, rfl, q1, q2, q3, q4, q5, q6⟩
    walk_at "zd"
    exact ⟨D, xs, ds, _, _, _, _, _, _, rfl, hD, d4, ThA.mono (hide_sub D B _) _ _ hA4, ⟨by omega, fun u m => (hb.el u m).mono (by omega)⟩, g4, gH⟩

/-! ### the law -/
theorem fit_str {x : Str} (h : okT x = true) (e : x.length ≤ 20000) : Fit (.str x) := ⟨nice_str (okT_okS h) e 60, fun _ _ z => (nomatch z)⟩
theorem fit_of {d : PyData} (h : Nice 20000 60 d) (n : isList d = false) : Fit d := ⟨h, fun ds x z => by
  rw [z] at n
  cases n⟩
theorem nice_rows {ys : List Str} {m : Nat} (h : ∀ y ∈ ys, y.length = m ∧ okT y = true) (hm : m ≤ 33) (e : ys.length ≤ 33) : Nice 1122 2 (.list (ys.map .str)) ∧ Nice 1122 2 (.tuple (ys.map .str)) := by
  have a : ∀ d ∈ ys.map PyData.str, Nice 33 1 d := fun d q => by
    obtain ⟨x, hx, rfl⟩ := List.mem_map.mp q
    exact nice_str (okT_okS (h x hx).2) (by rw [(h x hx).1]; exact hm) 1
  have z : (ys.map PyData.str).length * (33 + 1) ≤ 1122 := by rw [List.length_map]; omega
  exact ⟨Nice.list a z, Nice.tuple a z⟩
theorem join_len {ys : List Str} {m : Nat} (h : ∀ y ∈ ys, y.length = m ∧ okT y = true) : okT (Txt.join "" ys) = true ∧ (Txt.join "" ys).length = ys.length * m ∧ (ys.map (·.length)).sum = ys.length * m := by
  have e : ys = (ys.map fun y => y.cps.toList).map SX.S := by
    rw [List.map_map]
    have : (SX.S ∘ fun y : Str => y.cps.toList) = id := by
      funext y
      exact SX.S_tl y
    rw [this, List.map_id]
  have e2 : Txt.join "" ys = SX.S (ys.map fun y => y.cps.toList).flatten := by
    have := join_0 (ys.map fun y => y.cps.toList)
    rwa [← e] at this
  have e3 : (ys.map (·.length)).sum = ys.length * m := by
    clear e e2
    induction ys with
    | nil => simp
    | cons y ys ih =>
      rw [List.map_cons, List.sum_cons, ih fun z q => h z (List.mem_cons_of_mem _ q), (h y List.mem_cons_self).1, List.length_cons, Nat.succ_mul, Nat.add_comm]
  refine ⟨?_, ?_, e3⟩
  · rw [e2]
    refine okT_S fun c q => ?_
    obtain ⟨l, hl, hc⟩ := List.mem_flatten.mp q
    obtain ⟨y, hy, rfl⟩ := List.mem_map.mp hl
    exact okT_mem (h y hy).2 hc
  · rw [e2, SX.S_len, List.length_flatten, List.map_map, ← e3]
    congr 1
def spLaw (K : PySem.W.Frag) : Sp := fun vs H Q _ => ∃ (a : Addr) (ns : List Int), vs = [.ref a] ∧ SqL K H a (ns.map V.int) ∧ ns.length ≤ 63 ∧ ∀ H', Q (.bl true) H'
theorem ok_law (T : Tx K mg) (c_law_bag : Cg P w K mg base CX0 1 "_law_bag" (spBag K)) (c_law_take : Cg P w K mg base CX0 1 "_law_take" (spTake K)) (c_law_rows : Cg P w K mg base CX0 2 "_law_rows" (spLRows K)) (c_law_menu : Cg P w K mg base CX0 2 "_law_menu" (spMenu K)) (c_law_spoilt : Cg P w K mg base CX0 2 "_law_spoilt" (spSpoilt K)) (c_law_right : Cg P w K mg base CX0 4 "_law_right" (spRight K))
    (F : FunD K "law" "law" (defArgs s_law) (defBody s_law) (defScope s_law) [] [] f fd) : FnG P w K mg base CX0 5 f fd ["_law_script"] (spLaw K) := by
  refine FnG.of F sc_law (fun vs H Q E h => ?_) (fun cdv A outer s H vs Q E hr gd h => ?_)
  · obtain ⟨a, ns, rfl, _⟩ := h
    rfl
  · obtain ⟨a, ns, rfl, hS, hn, k⟩ := h
    have hu : (A.deeper (envOfC "law" (defScope s_law) s.heap.objs.size f cdv)).units + 64 < cLine := by have := hr.un; omega
    refine ⟨_, PSs.nox (pss_cons
    (ps_set (i := 1) sc_law.nd rfl (Or.inl rfl) (pe_cg c_law_bag hr gd (by decide) (by rfl) pass0 (pa_cons (zv 0) pa_nil)))
    (pss_cons
    (ps_for PassesOwn.never rfl (pi_range1 (by rfl) T.range (pa_cons pe_int pa_nil)) (pg_name (i := 2) sc_law.nd rfl (Or.inl rfl))
      (pss_cons
        (ps_set (i := 3) sc_law.nd rfl (Or.inl rfl) (pe_cg c_law_rows hr gd (by decide) (by rfl) pass0 (pa_cons (zv 1) (pa_cons (pe_cg c_law_menu hr gd (by decide) (by rfl) pass0 (pa_cons (zv 1) pa_nil)) (pa_cons pe_int pa_nil)))))
        (pss_cons
        (ps_set (i := 4) sc_law.nd rfl (Or.inl rfl) (pe_callTy (call_listK K) (by rfl) T.list (by decide +kernel) (pa_cons (zv 3) pa_nil)))
        (pss_cons
        (ps_for PassesOwn.never rfl (pi_range1 (by rfl) T.range (pa_cons (pe_op op_addZ pe_int (pe_cg c_law_take hr gd (by decide) (by rfl) pass0 (pa_cons (zv 1) (pa_cons pe_int pa_nil)))) pa_nil)) (pg_name (i := 5) sc_law.nd rfl (Or.inl rfl))
          (pss_one
            (ps_set (i := 4) sc_law.nd rfl (Or.inl rfl) (pe_cg c_law_spoilt hr gd (by decide) (by rfl) pass0 (pa_cons (zv 1) (pa_cons (zv 4) pa_nil))))))
        (pss_cons
        (ps_set (i := 6) sc_law.nd rfl (Or.inl rfl) (pe_lst (pa_cons (pe_callTy (call_tupleK K) (by rfl) T.tuple (by decide +kernel) (pa_cons (zv 3) pa_nil)) (pa_cons (pe_joinK K pe_str (zv 3)) (pa_cons pe_non (pa_cons pe_bl (pa_cons pe_int (pa_cons (pe_lst pa_nil) (pa_cons pe_dnewK (pa_cons (pe_lst (pa_cons (zv 3) pa_nil)) (pa_cons (pe_disp (pps_cons pe_str (zv 3) pps_nil) rfl rfl (by simp) (by decide)) pa_nil)))))))))))
        (pss_one
        (ps_for PassesOwn.never rfl (pi_listK K (pe_lst (pa_cons (zv 3) (pa_cons (zv 4) (pa_cons (pe_ix (ix_K K) (zv 6) (pe_cg c_law_take hr gd (by decide) (by rfl) pass0 (pa_cons (zv 1) (pa_cons pe_int pa_nil))) (fun _ _ => rfl)) (pa_cons (zv 3) pa_nil)))))) (pg_name (i := 7) sc_law.nd rfl (Or.inl rfl))
          (pss_one
            (ps_if (pt_not (pz_val (pe_cg c_law_right hr gd (by decide) (by rfl) pass0 (pa_cons (zv 7) pa_nil))))
              (pss_one
                (ps_ret pe_bl))
              pss_nil)))))))))
    (pss_one
    (ps_ret pe_bl)))), ?_⟩
    try dsimp only [cxOf, Cx.nox]
    show (tSeq _ _) _ [some (.ref a), none, none, none, none, none, none, none] _
    walk_at "zd"
    refine ⟨a, ns, rfl, hS, hn, fun ω H1 s1 g1 b1 => ?_⟩
    clear hS hn s1 b1
    refine ⟨6, rfl, by decide, by decide, for_range (fun _ σ H' => Bag K H' ω ∧ ∃ x2 x3 x4 x5 x6 x7, σ = [some (.ref a), some (.ref ω.b), x2, x3, x4, x5, x6, x7]) ⟨g1, _, _, _, _, _, _, rfl⟩ ?_ ?_⟩
    rotate_left
    · rintro σ H2 ⟨_, x2, x3, x4, x5, x6, x7, rfl⟩
      walk_at "zd"
      exact k H2
    rintro i σ H2 _ ⟨g2, x2, x3, x4, x5, x6, x7, rfl⟩
    walk_at "zd"
    refine ⟨ω, rfl, g2, fun sg H3 l1 l2 l3 g3 go3 => ?_⟩
    refine ⟨_, ω, sg, 33, inSg sgP, rfl, by decide, by decide, Wd.one g3, l1, l2, l3, fun p acc m H4 hp m1 m2 a1 a2 hrow h4 g4 go4 => ?_⟩
    have np : p ≠ ω.b := bag_ne g3 hp
    obtain ⟨ys, rfl, hys⟩ := items_of (mk := V.str) (P := fun x => x.length = m ∧ okT x = true) fun y q => by
      obtain ⟨x, e, e1, e2⟩ := (hrow y q).is
      exact ⟨x, e, e1, sgP_ok e2⟩
    rw [List.length_map] at a1 a2
    clear hrow hp g3 go3 go4 g2
    refine ⟨_, .inl (sq_of h4), fun q hq => ?_⟩
    have nq : q ≠ ω.b := bag_ne g4 hq
    -- the spoiling
    walk_at "zd"
    refine for_rng ?_
    walk_at "zd"
    refine take_n (g4.same (same_new hq)) (by decide) (by decide) fun j H5 hj g5 go5 => addI ?_
    have h5 := go5 _ _ np (same_new hq _ _ h4)
    have h5q := go5 _ _ nq (upd_same (H := H4) (o := .lst (ys.map V.str)))
    have hb0 : Bent 0 (ys.map .str) := ⟨by rw [List.length_map]; omega, fun d q => by
      obtain ⟨x, hx, rfl⟩ := List.mem_map.mp q
      exact el_str (hys x hx).2 (by have := (hys x hx).1; omega)⟩
    refine ⟨_, rfl, by omega, by omega, for_range (fun i σ H' => ∃ q' xs' ds' y2 x5, σ = [some (.ref a), some (.ref ω.b), y2, some (.ref p), some (.ref q'), x5, x6, x7] ∧ H' q' = some (.lst xs') ∧ q' ≠ ω.b ∧ ThA K (hd (fun q => decide (q = ω.b)) H') xs' ds' ∧ Bent i ds' ∧ Bag K H' ω ∧ H' p = some (.lst (ys.map V.str))) ?_ ?_ ?_⟩
    · exact ⟨q, _, ys.map .str, _, _, rfl, h5q, nq, ThA.strs ys, hb0, g5, h5⟩
    · rintro i' σ H6 hi ⟨q', xs', ds', y2, x5, rfl, e1, e2, hA, hB, g6, h6⟩
      walk_at "zd"
      refine ⟨_, ω, q', xs', ds', i', rfl, Wd.one g6, sq_of (hd_of (off_one e2) e1), hA, hB, by omega, fun q2 xs2 ds2 H7 hq2 h7 hA2 hB2 g7 go7 => ?_⟩
      exact ⟨q2, xs2, ds2, _, _, rfl, h7, bag_ne g6 hq2, hA2, hB2, g7, go7 _ _ np h6⟩
    rintro σ H6 ⟨q', xs', ds', y2, x5, rfl, e1, e2, hA, hB, g6, h6⟩
    have hk : (1 + (j : Int)).toNat ≤ 3 := by omega
    revert hB
    generalize (1 + (j : Int)).toNat = kk at *
    intro hB
    clear hb0 h5 h5q go5 g5 hq nq h4 g4 g1
    obtain ⟨j1, j2, j3⟩ := join_len hys
    have j4 : ys.length * m ≤ 33 * 33 := Nat.mul_le_mul a2 m2
    walk_at "zd"
    refine ⟨_, .inl ⟨sq_of h6, fun t1 ht1 => ?_⟩⟩
    have sA := same_new (o := .tup (ys.map V.str)) ht1
    refine ⟨⟨_, rfl⟩, joinI (ys := ys) (sq_of (sA _ _ h6)) (by rw [j3]; show _ + ys.length * 0 ≤ _; omega) ?_⟩
    refine ⟨line5 (show 0 ≤ 100000 by decide), fun v1 hv1 => fun d1 hd1 => ⟨line5 (show 1 ≤ 100000 by decide), fun v2 hv2 => fun d2 hd2 => ?_⟩⟩
    have sB := same_new (o := .lst []) hv1
    have sC := same_new (o := .dK []) hd1
    have sD := same_new (o := .lst [.ref p]) hv2
    refine ⟨upd_same, [(Sum.inr "a", .ref p)], rfl, show 1 ≤ 15 by decide, ⟨line5 (show 9 ≤ 100000 by decide), fun o ho => ?_⟩⟩
    have eM : mergeK [] [((Sum.inr "a" : Key), V.ref p)] = [((Sum.inr "a" : Key), V.ref p)] := rfl
    rw [eM] at ho ⊢
    have sE := same_mut (o := .dK [(Sum.inr "a", .ref p)]) (same_new (o := .dK []) hd2) hd2
    have f1 := sE _ _ (sD _ _ (sC _ _ (sB t1 _ upd_same)))
    have f2 := sE _ _ (sD _ _ (sC v1 _ upd_same))
    have f3 := sE _ _ (sD d1 _ upd_same)
    have f4 := sE v2 _ upd_same
    have f5 : upd (upd (upd (upd (upd (upd H6 t1 (.tup (ys.map V.str))) v1 (.lst [])) d1 (.dK [])) v2 (.lst [.ref p])) d2 (.dK [])) d2 (.dK [(Sum.inr "a", .ref p)]) d2 = some (.dK [(Sum.inr "a", .ref p)]) := upd_same
    have sF := ((sA.trans sB).trans sC).trans (sD.trans sE)
    have gB := g6.same sA
    have gC := gB.same sB
    have gD := gC.same sC
    have gE := gD.same sD
    have n1 := bag_ne g6 ht1
    have n2 := bag_ne gB hv1
    have n3 := bag_ne gC hd1
    have n4 := bag_ne gD hv2
    have n5 := bag_ne gE hd2
    have gF := g6.same sF
    revert f1 f2 f3 f4 f5 sF gF ho
    generalize upd (upd (upd (upd (upd (upd H6 t1 (.tup (ys.map V.str))) v1 (.lst [])) d1 (.dK [])) v2 (.lst [.ref p])) d2 (.dK [])) d2 (.dK [(Sum.inr "a", .ref p)]) = HF
    intro ho f1 f2 f3 f4 f5 sF gF
    clear sA sB sC sD sE gB gC gD gE ht1 hv1 hd1 hv2 hd2
    refine for_lst ?_
    walk_at "zd"
    refine take_at (gF.same (same_new ho)) upd_same (bag_ne gF ho) rfl (by decide) (by decide) fun x hx H7 g7 go7 => ⟨line5 (show 4 ≤ 100000 by decide), fun r hr => ?_⟩
    have go8 : Go ω.b HF H7 := (Go.of (same_new ho)).trans go7
    have s8 := same_new (o := .lst [.ref p, .ref q', x, .ref p]) hr
    have nr := nice_rows hys m2 a2
    have tp : Th K H7 (.ref p) (.list (ys.map .str)) := .lst (sq_of (go8 _ _ np (sF _ _ h6))) (ThA.strs ys)
    have fp : Fit (.list (ys.map .str)) := ⟨nr.1.mono (by decide) (by decide), fun ds x e mm => by
      cases e
      obtain ⟨y, hy, e⟩ := List.mem_map.mp mm
      cases e
      exact okT_okS (hys _ hy).2⟩
    have tq : Th K H7 (.ref q') (.list ds') := .lst (sq_of (go8 _ _ e2 (sF _ _ e1))) (ThA.mono ((Same.hd sF).trans ((go8.hd (decide_eq_true rfl)).trans (hd_same _ _))) _ _ hA)
    have fq : Fit (.list ds') := ⟨(hB.nice hk).mono (Nat.le_refl _) (by decide), fun ds x e mm => by
      cases e
      exact okT_okS ((hB.el _ mm).txt x rfl).1⟩
    have tx : ∃ d, Th K H7 x d ∧ Fit d := by
      simp only [List.mem_cons, List.not_mem_nil, or_false] at hx
      rcases hx with rfl | rfl | rfl | rfl | rfl | rfl | rfl | rfl | rfl
      · exact ⟨_, .tup (st_of (go8 _ _ n1 f1)) (ThA.strs ys), fit_of (nr.2.mono (by decide) (by decide)) rfl⟩
      · exact ⟨_, .str _, fit_str j1 (by omega)⟩
      · exact ⟨_, .non, fit_of (nice_none _ _) rfl⟩
      · exact ⟨_, .bl _, fit_of (nice_bool _ _ _) rfl⟩
      · exact ⟨_, .int _, fit_of ((nice_int5 (Nat.le_refl 33)).mono (by decide) (by decide)) rfl⟩
      · exact ⟨_, .lst (sq_of (go8 _ _ n2 f2)) .nil, ⟨Nice.list (R := 0) (n := 59) (fun _ z => (nomatch z)) (Nat.zero_le _), fun ds x e mm => by
          cases e
          cases mm⟩⟩
      · exact ⟨_, .dic (go8 _ _ n3 f3) .nil, fit_of (nice_dic0 _ _) rfl⟩
      · exact ⟨_, .lst (sq_of (go8 _ _ n4 f4)) (.cons tp .nil), ⟨(Nice.list (R := 1122) (R' := 1200) (n := 2) (ds := [.list (ys.map .str)]) (fun d z => by rw [List.mem_singleton.mp z]; exact nr.1) (show 1 * (1122 + 1) ≤ 1200 by decide)).mono (by decide) (by decide), fun ds x e mm => by
          cases e
          cases List.mem_singleton.mp mm⟩⟩
      · exact ⟨_, .dic (go8 _ _ n5 f5) (.cons tp .nil), fit_of ((nice_dic1 (R := 1122) (nice_str (by decide) (by decide) 2) nr.1 (Nat.le_refl _)).mono (by decide) (by decide)) rfl⟩
    refine ⟨r, rfl, ⟨_, sq_of upd_same⟩, ?_⟩
    have key : ∀ y, y ∈ [V.ref p, .ref q', x, .ref p] → ∃ d, Th K (upd H7 r (.lst [.ref p, .ref q', x, .ref p])) y d ∧ Fit d := fun y hy => by
      simp only [List.mem_cons, List.not_mem_nil, or_false] at hy
      obtain ⟨d, hd1, hd2⟩ : ∃ d, Th K H7 y d ∧ Fit d := by
        rcases hy with rfl | rfl | rfl | rfl
        · exact ⟨_, tp, fp⟩
        · exact ⟨_, tq, fq⟩
        · exact tx
        · exact ⟨_, tp, fp⟩
      exact ⟨d, Th.mono s8 _ _ hd1, hd2⟩
    have e8 : upd H7 r (.lst [.ref p, .ref q', x, .ref p]) r = some (.lst [.ref p, .ref q', x, .ref p]) := upd_same
    have g8 := g7.same s8
    revert key e8 g8
    generalize upd H7 r (.lst [.ref p, .ref q', x, .ref p]) = H8
    intro key e8 g8
    refine for_list (K := K) (a := r) (xs := [.ref p, .ref q', x, .ref p]) (fun _ σ H' => Same H8 H' ∧ ∃ x7, σ = [some (.ref a), some (.ref ω.b), y2, some (.ref p), some (.ref q'), x5, some (.ref o), x7]) ⟨Same.refl _, _, rfl⟩ (fun _ σ H' _ h => h.1.seq (sq_of e8)) ?_ ?_
    · rintro n y σ H9 hy ⟨s9, x7, rfl⟩
      obtain ⟨d, hd1, hd2⟩ := key y (List.mem_of_getElem? hy)
      walk_at "zd"
      refine ⟨y, d, rfl, Th.mono s9 _ _ hd1, hd2, fun H10 s10 => ?_⟩
      refine iteN (fun z => by cases z) fun _ => ?_
      exact ⟨s9.trans s10, _, rfl⟩
    · rintro σ H9 ⟨s9, x7, rfl⟩
      exact ⟨g8.same s9, _, _, _, _, _, _, rfl⟩

end
theorem relI {mg : Str → Option Value} {x : Str} {i : Int} (h : ∃ t, mg x = some (.int i t)) : ∃ u, mg x = some u ∧ RelV (.int i) u := by
  obtain ⟨t, e⟩ := h
  exact ⟨_, e, t, rfl⟩
theorem relS {mg : Str → Option Value} {x z : Str} (h : ∃ t, mg x = some (.str z t)) : ∃ u, mg x = some u ∧ RelV (.str z) u := by
  obtain ⟨t, e⟩ := h
  exact ⟨_, e, t, rfl⟩
abbrev d_is_made_of : He.DefD := ⟨("is_made_of", none), "is_made_of", "is_made_of", defArgs s_is_made_of, defBody s_is_made_of, defScope s_is_made_of, [], []⟩
abbrev d_is_picture : He.DefD := ⟨("is_picture", none), "is_picture", "is_picture", defArgs s_is_picture, defBody s_is_picture, defScope s_is_picture, [], []⟩
abbrev d_is_piece : He.DefD := ⟨("is_piece", none), "is_piece", "is_piece", defArgs s_is_piece, defBody s_is_piece, defScope s_is_piece, [], []⟩
abbrev d_is_rows : He.DefD := ⟨("is_rows", none), "is_rows", "is_rows", defArgs s_is_rows, defBody s_is_rows, defScope s_is_rows, [], []⟩
abbrev d_law_bag : He.DefD := ⟨("_law_bag", none), "_law_bag", "_law_bag", defArgs s_law_bag, defBody s_law_bag, defScope s_law_bag, [], []⟩
abbrev d_law_take : He.DefD := ⟨("_law_take", none), "_law_take", "_law_take", defArgs s_law_take, defBody s_law_take, defScope s_law_take, [], []⟩
abbrev d_law_rows : He.DefD := ⟨("_law_rows", none), "_law_rows", "_law_rows", defArgs s_law_rows, defBody s_law_rows, defScope s_law_rows, [], []⟩
abbrev d_law_menu : He.DefD := ⟨("_law_menu", none), "_law_menu", "_law_menu", defArgs s_law_menu, defBody s_law_menu, defScope s_law_menu, [], []⟩
abbrev d_law_spoilt : He.DefD := ⟨("_law_spoilt", none), "_law_spoilt", "_law_spoilt", defArgs s_law_spoilt, defBody s_law_spoilt, defScope s_law_spoilt, [], []⟩
abbrev d_law_are : He.DefD := ⟨("_law_are", none), "_law_are", "_law_are", defArgs s_law_are, defBody s_law_are, defScope s_law_are, [], []⟩
abbrev d_law_right : He.DefD := ⟨("_law_right", none), "_law_right", "_law_right", defArgs s_law_right, defBody s_law_right, defScope s_law_right, [], []⟩
abbrev d_law : He.DefD := ⟨("law", none), "law", "law", defArgs s_law, defBody s_law, defScope s_law, [], []⟩
def fn : List He.DefD := ([d_is_made_of, d_is_picture, d_is_piece, d_is_rows, d_law_bag, d_law_take, d_law_rows, d_law_menu, d_law_spoilt, d_law_are, d_law_right, d_law] : List He.DefD)
def fa : List He.Fa := ([.glo "is_made_of", .glo "is_picture", .glo "is_piece", .glo "is_rows", .glo "_law_bag", .glo "_law_take", .glo "_law_rows", .glo "_law_menu", .glo "_law_spoilt", .glo "_law_are", .glo "_law_right", .glo "law", .free "abs", .free "all", .free "bool", .free "int", .free "isinstance", .free "len", .free "list", .free "range", .free "repr", .free "str", .free "tuple", .str "SIGNS" ".abcdefghijklmnopqrstuvwxyz", .int "MOST" 32, .str "LEFT_ALONE" "_"] : List He.Fa)
abbrev R : PySem.W.OpenRow := PySem.W.OpenLaw.row PySem.Challenge.rw_cellscript_k12_pictures_known
abbrev hk : PySem.W.Hook := He.hookD 4 fa fn
def ob (s : PySem.W.SharedT) : He.AlD := He.obsDG 4 fa fn (HandSHeadRun.getT s)
theorem ob_eq (s : PySem.W.SharedT) : ob s = hk.obs s.abs := He.obsDG_eq (HandSHeadRun.getT_eq s)
theorem run (w : World) : HandSHeadRun.RunEq R (PySem.W.view R.prog [17]) hk ob 4000 ((["SIGNS", "is_made_of", "MOST", "LEFT_ALONE", "is_picture", "is_piece", "is_rows", "_law_bag", "_law_take", "_law_rows", "_law_menu", "_law_spoilt", "_law_are", "_law_right"] : List Str)) w := by
  intro os
  kernel_rfl
theorem facts {P : Program} {w : World} {K : PySem.W.Frag} {h : Heap} {mg : Str → Option Value} {f : Addr} (X : K.In h) (G : h.Ns mainGlobals mg) (hfa : mg ("law" : Str) = some (.ref f)) (c : He.SaysD fa fn K) :
    ∃ fd : FuncData, (∀ (s : Shared) (v : Value), BindsTo s fd ⟨[v], []⟩ [("_law_script", v)]) ∧ ∀ base : Heap, K.In base → base.Ns mainGlobals mg → FnG P w K mg base CX0 5 f fd ["_law_script"] (spLaw K) := by
  have T : Tx K mg := ⟨He.free_ok X G (c.fact 12 (f := .free "abs") rfl),
    He.free_ok X G (c.fact 13 (f := .free "all") rfl),
    He.free_ok X G (c.fact 14 (f := .free "bool") rfl),
    He.free_ok X G (c.fact 15 (f := .free "int") rfl),
    He.free_ok X G (c.fact 16 (f := .free "isinstance") rfl),
    He.free_ok X G (c.fact 17 (f := .free "len") rfl),
    He.free_ok X G (c.fact 18 (f := .free "list") rfl),
    He.free_ok X G (c.fact 19 (f := .free "range") rfl),
    He.free_ok X G (c.fact 20 (f := .free "repr") rfl),
    He.free_ok X G (c.fact 21 (f := .free "str") rfl),
    He.free_ok X G (c.fact 22 (f := .free "tuple") rfl),
    relS (He.str_ok X G (c.fact 23 (f := .str "SIGNS" ".abcdefghijklmnopqrstuvwxyz") rfl)),
    relI (He.int_ok X G (c.fact 24 (f := .int "MOST" 32) rfl)),
    relS (He.str_ok X G (c.fact 25 (f := .str "LEFT_ALONE" "_") rfl))⟩
  obtain ⟨fd_law_take, F_law_take⟩ := c.def_ 5 (d := d_law_take) rfl
  obtain ⟨fd_is_made_of, F_is_made_of⟩ := c.def_ 0 (d := d_is_made_of) rfl
  obtain ⟨fd_is_rows, F_is_rows⟩ := c.def_ 3 (d := d_is_rows) rfl
  obtain ⟨fd_is_picture, F_is_picture⟩ := c.def_ 1 (d := d_is_picture) rfl
  obtain ⟨fd_is_piece, F_is_piece⟩ := c.def_ 2 (d := d_is_piece) rfl
  obtain ⟨fd_law_are, F_law_are⟩ := c.def_ 9 (d := d_law_are) rfl
  obtain ⟨fd_law_right, F_law_right⟩ := c.def_ 10 (d := d_law_right) rfl
  obtain ⟨fd_law_bag, F_law_bag⟩ := c.def_ 4 (d := d_law_bag) rfl
  obtain ⟨fd_law_menu, F_law_menu⟩ := c.def_ 7 (d := d_law_menu) rfl
  obtain ⟨fd_law_rows, F_law_rows⟩ := c.def_ 6 (d := d_law_rows) rfl
  obtain ⟨fd_law_spoilt, F_law_spoilt⟩ := c.def_ 8 (d := d_law_spoilt) rfl
  obtain ⟨fd_law, F_law⟩ := c.def_ 11 (d := d_law) rfl
  have e := hfa.symm.trans (He.glo_ok X G (c.fact 11 (f := .glo "law") rfl))
  cases e
  refine ⟨_, fun s v => (FunD.bindsA (ps := ["_law_script"]) F_law fun _ _ _ _ _ _ us hl => match us, hl with | [_], _ => rfl) s [v] rfl, fun base _ _ => ?_⟩
  have C_law_take : Cg P w K mg base CX0 1 "_law_take" (spTake K) := ⟨_, _, _, ok_take T  F_law_take, He.glo_ok X G (c.fact 5 (f := .glo "_law_take") rfl), F_law_take.kp, F_law_take.bindsN fun _ _ _ _ _ _ us hl => match us, hl with | [_, _], _ => rfl⟩
  have C_is_made_of : Cg P w K mg base CX0 1 "is_made_of" (spMade K) := ⟨_, _, _, ok_made T  F_is_made_of, He.glo_ok X G (c.fact 0 (f := .glo "is_made_of") rfl), F_is_made_of.kp, F_is_made_of.bindsN fun _ _ _ _ _ _ us hl => match us, hl with | [_, _], _ => rfl⟩
  have C_is_rows : Cg P w K mg base CX0 2 "is_rows" (spRows K) := ⟨_, _, _, ok_rows T C_is_made_of F_is_rows, He.glo_ok X G (c.fact 3 (f := .glo "is_rows") rfl), F_is_rows.kp, F_is_rows.bindsN fun _ _ _ _ _ _ us hl => match us, hl with | [_, _, _], _ => rfl⟩
  have C_is_picture : Cg P w K mg base CX0 3 "is_picture" (spPic K ".abcdefghijklmnopqrstuvwxyz") := ⟨_, _, _, ok_pic T C_is_rows F_is_picture, He.glo_ok X G (c.fact 1 (f := .glo "is_picture") rfl), F_is_picture.kp, F_is_picture.bindsN fun _ _ _ _ _ _ us hl => match us, hl with | [_], _ => rfl⟩
  have C_is_piece : Cg P w K mg base CX0 3 "is_piece" (spPic K ".abcdefghijklmnopqrstuvwxyz_") := ⟨_, _, _, ok_piece T C_is_rows F_is_piece, He.glo_ok X G (c.fact 2 (f := .glo "is_piece") rfl), F_is_piece.kp, F_is_piece.bindsN fun _ _ _ _ _ _ us hl => match us, hl with | [_], _ => rfl⟩
  have C_law_are : Cg P w K mg base CX0 1 "_law_are" (spAre K) := ⟨_, _, _, ok_are T  F_law_are, He.glo_ok X G (c.fact 9 (f := .glo "_law_are") rfl), F_law_are.kp, F_law_are.bindsN fun _ _ _ _ _ _ us hl => match us, hl with | [_, _], _ => rfl⟩
  have C_law_right : Cg P w K mg base CX0 4 "_law_right" (spRight K) := ⟨_, _, _, ok_right T C_is_picture C_is_piece C_law_are F_law_right, He.glo_ok X G (c.fact 10 (f := .glo "_law_right") rfl), F_law_right.kp, F_law_right.bindsN fun _ _ _ _ _ _ us hl => match us, hl with | [_], _ => rfl⟩
  have C_law_bag : Cg P w K mg base CX0 1 "_law_bag" (spBag K) := ⟨_, _, _, ok_bag T  F_law_bag, He.glo_ok X G (c.fact 4 (f := .glo "_law_bag") rfl), F_law_bag.kp, F_law_bag.bindsN fun _ _ _ _ _ _ us hl => match us, hl with | [_], _ => rfl⟩
  have C_law_menu : Cg P w K mg base CX0 2 "_law_menu" (spMenu K) := ⟨_, _, _, ok_menu T C_law_take F_law_menu, He.glo_ok X G (c.fact 7 (f := .glo "_law_menu") rfl), F_law_menu.kp, F_law_menu.bindsN fun _ _ _ _ _ _ us hl => match us, hl with | [_], _ => rfl⟩
  have C_law_rows : Cg P w K mg base CX0 2 "_law_rows" (spLRows K) := ⟨_, _, _, ok_lrows T C_law_take F_law_rows, He.glo_ok X G (c.fact 6 (f := .glo "_law_rows") rfl), F_law_rows.kp, F_law_rows.bindsN fun _ _ _ _ _ _ us hl => match us, hl with | [_, _, _], _ => rfl⟩
  have C_law_spoilt : Cg P w K mg base CX0 2 "_law_spoilt" (spSpoilt K) := ⟨_, _, _, ok_spoilt T C_law_take F_law_spoilt, He.glo_ok X G (c.fact 8 (f := .glo "_law_spoilt") rfl), F_law_spoilt.kp, F_law_spoilt.bindsN fun _ _ _ _ _ _ us hl => match us, hl with | [_, _], _ => rfl⟩
  exact ok_law T C_law_bag C_law_take C_law_rows C_law_menu C_law_spoilt C_law_right F_law
end Lw
open PySem PySem.W PySem.Calls PyProof.Rows
theorem PySem.Challenge.cw_cellscript_k12_pictures_known_holds : PySem.Challenge.rw_cellscript_k12_pictures_known.Holds := by
  w_on; o_law
  refine HandSHeadRun.head_any (r := OpenLaw.row PySem.Challenge.rw_cellscript_k12_pictures_known) (q := view (OpenLaw.row PySem.Challenge.rw_cellscript_k12_pictures_known).prog [17]) (H := Lw.hk) (ob := Lw.ob) (M := 4000) (loose := ((["SIGNS", "is_made_of", "MOST", "LEFT_ALONE", "is_picture", "is_piece", "is_rows", "_law_bag", "_law_take", "_law_rows", "_law_menu", "_law_spoilt", "_law_are", "_law_right"] : List Str))) (d := HandSHeadRun.topDef (OpenLaw.row PySem.Challenge.rw_cellscript_k12_pictures_known).prog 17) (kwd := []) Lw.ob_eq
    (by kernel_rfl) (fun s => by kernel_rfl) Lw.run (by kernel_rfl) (by kernel_rfl) (by kernel_rfl) (by rfl) (by first | assumption | decide +kernel) (by decide +kernel) ⟨rfl, rfl, rfl, rfl, rfl, by decide +kernel⟩ ?hw ?hc
  case hw => w_witness2
  case hc =>
    refine Z.law_walk (l := PySem.Challenge.rw_cellscript_k12_pictures_known) (n := 63) (k := 5) (x := "_law_script") (CX := L2.CX0) rfl (by decide) (by kernel_rfl) ⟨rfl, by decide, by decide⟩ ?F (fun _ _ _ _ z => z)
    intro w mg fa h Y G hmg0
    obtain ⟨K, KX, c⟩ := Y
    have hmg : mg ("law" : PySem.Str) = some (.ref fa) := by
      have e : (HandSHeadRun.topDef (OpenLaw.row PySem.Challenge.rw_cellscript_k12_pictures_known).prog 17).name = ("law" : PySem.Str) := by kernel_rfl
      rw [← e]
      exact hmg0
    obtain ⟨fd, hb, hF⟩ := Lw.facts (P := (PySem.Challenge.rw_cellscript_k12_pictures_known).prog) (w := w) KX G hmg c
    exact ⟨K, fd, Lw.spLaw K, KX, hb, fun H a ns hl hS => ⟨a, ns, rfl, hS, hl, fun _ => rfl⟩, hF⟩
