/-
  CONTRACTS OF num.Add, Sub, Mul, Neg, Cmp, Small, Of.
  CONTRACTS OF slices.Clone, num.Neg, Small, Of.
  CONTRACTS OF num.Of, Small.
  THE CONTRACTS OF PACKAGE num, SAID OF INTEGERS.
-/
import Derived.Test.YtmcfokeibecopaaK1
import Derived.Deep.RegionHeld3
namespace Go.Proofs.Ytmcfokeibecopaa
open Go.RowKit

/-- Integers of at most eight limbs lie below. -/
def Lm.top : Nat := 4294967296 ^ 8
set_option maxRecDepth 100000 in
theorem Lm.top_iff (n : Nat) : (Lm.digits n).length ≤ 8 ↔ n < Lm.top := Lm.digits_length n 8

/-- z, if it has at most eight limbs; else 0. -/
def clip (z : Int) : Int := if z.natAbs < Lm.top then z else 0
/-- Has z at most eight limbs? -/
def fits (z : Int) : Bool := decide (z.natAbs < Lm.top)
set_option maxRecDepth 100000 in
theorem natAbs_sgn (g : Bool) (v : Nat) : (sgn g v).natAbs = v := by cases g <;> simp [sgn]

set_option maxRecDepth 100000 in
theorem trimmed_at (w : World) (A : Option Addr) (n c : Nat) (l : List Nat) (k : Nat) (h : Lim w A n c l) (hn : c ≤ maxLen) (hk : Hid (k = (Lm.digits (Lm.val l)).length)) :
    Calls Try.prog 47 #[.slice A n c] w fun e w' => e = .returned (.slice A k c) ∧ w = w' := by
  rw [hk.out]
  exact trimmed_any w A n c l h hn

/-- What a call leaves that answers a number and a bool. -/
def NumPost (w : World) (z : Int) (ok : Bool) (e : Ending) (w' : World) : Prop :=
  ∃ V, e = .returned (.tuple #[V, .bool ok]) ∧ NumV w' w.heap.size V z ∧ Below w.heap.size w w'
def NumPostB (w : World) (base : Nat) (z : Int) (ok : Bool) (e : Ending) (w' : World) : Prop :=
  ∃ V, e = .returned (.tuple #[V, .bool ok]) ∧ NumV w' base V z ∧ Below w.heap.size w w'

set_option maxRecDepth 100000 in
theorem signed_num (w : World) (base : Nat) (g : Bool) (A : Option Addr) (n c v : Nat) (h : Own w base A n c (Lm.digits v)) :
    Calls Try.prog 46 #[.bool g, .slice A n c] w fun e w' => ∃ V, e = .returned V ∧ NumV w' base V (sgn g v) ∧ Below w.heap.size w w' :=
  (signed_any w g A n c).mono fun _ _ ⟨he, hb⟩ => ⟨_, he, (signedV_num h).below hb, hb⟩

/-- What comes in as a number that may be: its limbs are the digits of v. -/
def Arg (w : World) (A : Option Addr) (n c v : Nat) : Prop := Lim w A n c (Lm.digits v) ∧ c ≤ maxLen ∧ n ≤ 1000

set_option maxRecDepth 100000 in
theorem Arg.below {w w' : World} {A : Option Addr} {n c v : Nat} (h : Arg w A n c v) (hb : Below w.heap.size w w') : Arg w' A n c v := ⟨h.1.below hb, h.2⟩
set_option maxRecDepth 100000 in
theorem Arg.alloc {w : World} {A : Option Addr} {n c v : Nat} (h : Arg w A n c v) (o : Obj) : Arg (w.alloc o) A n c v := ⟨h.1.alloc o, h.2⟩

/-- What a call leaves that makes a row of limbs. -/
def RowPost (w : World) (N v : Nat) (e : Ending) (w' : World) : Prop :=
  ∃ A c t, e = .returned (.slice A N c) ∧ Own w' w.heap.size A N c t ∧ Lm.val t = v ∧ Below w.heap.size w w'
set_option maxRecDepth 100000 in
theorem SumPost.row {w : World} {N v : Nat} (hN : N ≤ 100000) {e : Ending} {w' : World} (h : SumPost w N v e w') : RowPost w N v e w' := by
  obtain ⟨t, rfl, rfl, hl, hs, hv⟩ := h
  subst hl
  exact ⟨_, _, t, rfl, Own.new w _ t hs (Nat.le_refl _) (by unfold maxLen; omega), hv, (Below.refl _ _).alloc (Nat.le_refl _) _⟩

set_option maxRecDepth 100000 in
theorem Arg.drew {w : World} {A : Option Addr} {n c v : Nat} (h : Arg w A n c v) : Arg w.drew A n c v := h
set_option maxRecDepth 100000 in
theorem Arg.drewN {w : World} {A : Option Addr} {n c v : Nat} (h : Arg w A n c v) (q : Nat) : Arg (w.drewN q) A n c v := h

set_option maxRecDepth 100000 in
/-- A number is stored into a variable of the call's own. -/
theorem close_num {w w2 : World} {r base base' : Nat} {x y : Value} {s : Bool} {A : Option Addr} {n c : Nat} {z : Int} (zr : Box w2 r x y) (hr : w.heap.size ≤ r) (hbl : Below w.heap.size w w2)
    (hs : Hid (s = decide (z < 0))) (ho : Own w2 base A n c (Lm.digits z.natAbs)) (hbase : base' ≤ base) :
    Box ((w2.setCell ⟨r, 0, none⟩ (.bool s)).setCell ⟨r, 1, none⟩ (.slice A n c)) r (.bool s) (.slice A n c) ∧
    NumV ((w2.setCell ⟨r, 0, none⟩ (.bool s)).setCell ⟨r, 1, none⟩ (.slice A n c)) base' (.agg #[.bool s, .slice A n c]) z ∧
    Below w.heap.size w ((w2.setCell ⟨r, 0, none⟩ (.bool s)).setCell ⟨r, 1, none⟩ (.slice A n c)) := by
  refine ⟨(zr.set0 _).set1 _, ?_, (hbl.setCell (p := ⟨r, 0, none⟩) hr _).setCell (p := ⟨r, 1, none⟩) hr _⟩
  have h1 : NumV w2 base (.agg #[.bool s, .slice A n c]) z := ⟨s, A, n, c, rfl, hs, ho⟩
  exact ((h1.box zr 0 _).box (zr.set0 _) 1 _).mono hbase

end Go.Proofs.Ytmcfokeibecopaa

namespace Go.Proofs.Ytmcfokeibecopaa
open Go.RowKit

set_option maxRecDepth 100000 in
theorem sgn_add (g : Bool) (a b : Nat) : sgn g (a + b) = sgn g a + sgn g b := by cases g <;> simp [sgn] <;> omega
set_option maxRecDepth 100000 in
theorem sgn_less {g g' : Bool} (h : g ≠ g') {a b : Nat} (hl : a < b) : sgn g' (b - a) = sgn g a + sgn g' b := by
  cases g <;> cases g' <;> simp [sgn] at h ⊢ <;> omega
set_option maxRecDepth 100000 in
theorem sgn_more {g g' : Bool} (h : g ≠ g') {a b : Nat} (hl : b ≤ a) : sgn g (a - b) = sgn g a + sgn g' b := by
  cases g <;> cases g' <;> simp [sgn] at h ⊢ <;> omega
set_option maxRecDepth 100000 in
theorem sgn_not (g : Bool) (a : Nat) : sgn (!g) a = - sgn g a := by cases g <;> simp [sgn]
set_option maxRecDepth 100000 in
theorem sgn_mul (g g' : Bool) (a b : Nat) : sgn (!(g == g')) (a * b) = sgn g a * sgn g' b := by cases g <;> cases g' <;> simp [sgn, Int.neg_mul, Int.mul_neg]

/-- Limbs that came in, of any make. -/
def Raw (w : World) (A : Option Addr) (n c : Nat) (l : List Nat) : Prop := Lim w A n c l ∧ c ≤ maxLen
set_option maxRecDepth 100000 in
theorem Raw.below {w w' : World} {A : Option Addr} {n c : Nat} {l : List Nat} (h : Raw w A n c l) (hb : Below w.heap.size w w') : Raw w' A n c l := ⟨h.1.below hb, h.2⟩
set_option maxRecDepth 100000 in
theorem Raw.drewN {w : World} {A : Option Addr} {n c : Nat} {l : List Nat} (h : Raw w A n c l) (q : Nat) : Raw (w.drewN q) A n c l := h

set_option maxRecDepth 100000 in
theorem mayB_len {g : Bool} {l : List Nat} (h : mayB g l = true) : l.length ≤ 8 := by
  unfold mayB at h
  by_cases h0 : l.length = 0
  · omega
  · rw [if_neg h0] at h; simp at h; exact h.1
set_option maxRecDepth 100000 in
theorem mayB_canon {g : Bool} {l : List Nat} (h : mayB g l = true) : Lm.Canon l := by
  intro h0
  unfold mayB at h
  rw [if_neg (by omega)] at h
  simp at h
  exact h.2
set_option maxRecDepth 100000 in
theorem Raw.arg {w : World} {g : Bool} {A : Option Addr} {n c : Nat} {l : List Nat} (h : Raw w A n c l) (hm : mayB g l = true) : Arg w A n c (Lm.val l) := by
  unfold Arg
  rw [Lm.digits_val h.1.2.2.1 (mayB_canon hm)]
  exact ⟨h.1, h.2, by have := mayB_len hm; rw [h.1.1] at this; omega⟩

set_option maxRecDepth 100000 in
theorem may_b (w : World) (g : Bool) (A : Option Addr) (n c : Nat) (l : List Nat) (h : Raw w A n c l) :
    Calls Try.prog 44 #[.agg #[.bool g, .slice A n c]] w fun e w' => e = .returned (.bool (mayB g l)) ∧ Below w.heap.size w w' :=
  (may_any w g A n c l h.1 h.2).mono fun _ _ ⟨he, hw⟩ => ⟨he, by rw [hw]; exact (Below.refl _ _).alloc (Nat.le_refl _) _⟩

/-- How two integers stand. -/
def cmpZ (a b : Int) : Int := if a < b then -1 else if b < a then 1 else 0
/-- What a call leaves that answers an int. -/
def IntPost (w : World) (z : Int) (e : Ending) (w' : World) : Prop := e = .returned (.int .i64 z) ∧ Below w.heap.size w w'

set_option maxRecDepth 100000 in
set_option maxHeartbeats 1000000 in
theorem cmp_no1 (w : World) (g g' : Bool) (A B : Option Addr) (n c m d : Nat) (l k : List Nat) (h : Raw w A n c l) (h' : Raw w B m d k) (hm : mayB g l = false) : Calls Try.prog 57 #[.agg #[.bool g, .slice A n c], .agg #[.bool g', .slice B m d]] w (IntPost w 0) := by
  go_enter Try.func57, Try.ntmps57
  go_wp2_with fail
  have hb0 := (((Below.refl w.heap.size w).alloc (Nat.le_refl _) (.cells #[.bool g, .slice A n c] 24)).alloc (by simp) (.cells #[.bool g', .slice B m d] 24))
  have hxa := ((Box.new w (.bool g) (.slice A n c)).alloc (.cells #[.bool g', .slice B m d] 24))
  have hxb := (Box.new (w.alloc (.cells #[.bool g, .slice A n c] 24)) (.bool g') (.slice B m d))
  simp only [World.size_alloc] at hxb
  have hAA := h.below hb0
  have hBB := h'.below hb0
  generalize ((w.alloc (.cells #[.bool g, .slice A n c] 24)).alloc (.cells #[.bool g', .slice B m d] 24)) = W at *
  have x1 := hxa.c0
  have x2 := hxa.c1
  refine (may_b W g A n c l hAA).mono ?_
  rintro e w1 ⟨rfl, hb1⟩
  have ya := hxa.below' hb1
  have yb := hxb.below' hb1
  skip
  replace hAA := hAA.below hb1
  replace hBB := hBB.below hb1
  replace hb0 := hb0.trans (hb1.mono hb0.size)
  clear hxa hxb  x1 x2 hb1
  have x1 := ya.c0
  have x2 := ya.c1
  have x3 := yb.c0
  have x4 := yb.c1
  go_wp2
  go_ret
  exact ⟨rfl, hb0⟩
set_option maxRecDepth 100000 in
set_option maxHeartbeats 1000000 in
theorem cmp_no2 (w : World) (g g' : Bool) (A B : Option Addr) (n c m d : Nat) (l k : List Nat) (h : Raw w A n c l) (h' : Raw w B m d k) (hm : mayB g l = true) (hm' : mayB g' k = false) : Calls Try.prog 57 #[.agg #[.bool g, .slice A n c], .agg #[.bool g', .slice B m d]] w (IntPost w 0) := by
  go_enter Try.func57, Try.ntmps57
  go_wp2_with fail
  have hb0 := (((Below.refl w.heap.size w).alloc (Nat.le_refl _) (.cells #[.bool g, .slice A n c] 24)).alloc (by simp) (.cells #[.bool g', .slice B m d] 24))
  have hxa := ((Box.new w (.bool g) (.slice A n c)).alloc (.cells #[.bool g', .slice B m d] 24))
  have hxb := (Box.new (w.alloc (.cells #[.bool g, .slice A n c] 24)) (.bool g') (.slice B m d))
  simp only [World.size_alloc] at hxb
  have hAA := h.below hb0
  have hBB := h'.below hb0
  generalize ((w.alloc (.cells #[.bool g, .slice A n c] 24)).alloc (.cells #[.bool g', .slice B m d] 24)) = W at *
  have x1 := hxa.c0
  have x2 := hxa.c1
  refine (may_b W g A n c l hAA).mono ?_
  rintro e w1 ⟨rfl, hb1⟩
  have ya := hxa.below' hb1
  have yb := hxb.below' hb1
  skip
  replace hAA := hAA.below hb1
  replace hBB := hBB.below hb1
  replace hb0 := hb0.trans (hb1.mono hb0.size)
  clear hxa hxb  x1 x2 hb1
  have x1 := ya.c0
  have x2 := ya.c1
  have x3 := yb.c0
  have x4 := yb.c1
  go_wp2_with fail
  refine (may_b w1 g' B m d k hBB).mono ?_
  rintro e w2 ⟨rfl, hb2⟩
  have za := ya.below' hb2
  have zb := yb.below' hb2
  skip
  replace hAA := hAA.below hb2
  replace hBB := hBB.below hb2
  replace hb0 := hb0.trans (hb2.mono hb0.size)
  clear ya yb  x1 x2 x3 x4 hb2
  have x1 := za.c0
  have x2 := za.c1
  have x3 := zb.c0
  have x4 := zb.c1
  go_wp2
  go_ret
  exact ⟨rfl, hb0⟩
set_option maxRecDepth 100000 in
theorem val_pos_of_neg {l : List Nat} (h : mayB true l = true) (hs : Lm.Small l) : 0 < Lm.val l := by
  rcases Nat.eq_zero_or_pos (Lm.val l) with h0 | h0
  · have := Lm.val_eq_zero (mayB_canon h) h0
    subst this
    simp [mayB] at h
  · exact h0
set_option maxRecDepth 100000 in
set_option maxHeartbeats 2000000 in
theorem cmp_yes (w : World) (g g' : Bool) (A B : Option Addr) (n c m d : Nat) (l k : List Nat) (h : Raw w A n c l) (h' : Raw w B m d k) (hm : mayB g l = true) (hm' : mayB g' k = true) :
    Calls Try.prog 57 #[.agg #[.bool g, .slice A n c], .agg #[.bool g', .slice B m d]] w (IntPost w (cmpZ (sgn g (Lm.val l)) (sgn g' (Lm.val k)))) := by
  have hsl := h.1.2.2.1
  have hsk := h'.1.2.2.1
  go_enter Try.func57, Try.ntmps57
  go_wp2_with fail
  have hb0 := (((Below.refl w.heap.size w).alloc (Nat.le_refl _) (.cells #[.bool g, .slice A n c] 24)).alloc (by simp) (.cells #[.bool g', .slice B m d] 24))
  have hxa := ((Box.new w (.bool g) (.slice A n c)).alloc (.cells #[.bool g', .slice B m d] 24))
  have hxb := (Box.new (w.alloc (.cells #[.bool g, .slice A n c] 24)) (.bool g') (.slice B m d))
  simp only [World.size_alloc] at hxb
  have hAA := h.below hb0
  have hBB := h'.below hb0
  generalize ((w.alloc (.cells #[.bool g, .slice A n c] 24)).alloc (.cells #[.bool g', .slice B m d] 24)) = W at *
  have x1 := hxa.c0
  have x2 := hxa.c1
  refine (may_b W g A n c l hAA).mono ?_
  rintro e w1 ⟨rfl, hb1⟩
  have ya := hxa.below' hb1
  have yb := hxb.below' hb1
  skip
  replace hAA := hAA.below hb1
  replace hBB := hBB.below hb1
  replace hb0 := hb0.trans (hb1.mono hb0.size)
  clear hxa hxb  x1 x2 hb1
  have x1 := ya.c0
  have x2 := ya.c1
  have x3 := yb.c0
  have x4 := yb.c1
  go_wp2_with fail
  refine (may_b w1 g' B m d k hBB).mono ?_
  rintro e w2 ⟨rfl, hb2⟩
  have za := ya.below' hb2
  have zb := yb.below' hb2
  skip
  replace hAA := hAA.below hb2
  replace hBB := hBB.below hb2
  replace hb0 := hb0.trans (hb2.mono hb0.size)
  clear ya yb  x1 x2 x3 x4 hb2
  have x1 := za.c0
  have x2 := za.c1
  have x3 := zb.c0
  have x4 := zb.c1
  cases g with
  | true =>
    cases g' with
    | true =>
      have fin := Lib.hid (show Lm.cmpN (Lm.val k) (Lm.val l) = cmpZ (sgn true (Lm.val l)) (sgn true (Lm.val k)) by simp [Lm.cmpN, cmpZ, sgn])
      go_wp2_with fail
      refine (compareLimbs_any w2 B A m d n c k l hBB.1 hBB.2 hAA.1 hAA.2 (mayB_canon hm') (mayB_canon hm)).mono ?_
      rintro e w' ⟨rfl, q, rfl⟩
      go_wp2
      go_ret
      rw [← fin.out]
      exact ⟨rfl, hb0.drewN' q⟩
    | false =>
      have hp := val_pos_of_neg hm hsl
      have fin := Lib.hid (show cmpZ (sgn true (Lm.val l)) (sgn false (Lm.val k)) = -1 by have e1 : sgn true (Lm.val l) = -(Lm.val l : Int) := rfl; have e2 : sgn false (Lm.val k) = (Lm.val k : Int) := rfl; rw [e1, e2]; unfold cmpZ; rw [if_pos (by omega)])
      go_wp2
      go_ret
      rw [fin.out]
      exact ⟨rfl, hb0⟩
  | false =>
    cases g' with
    | true =>
      have hp := val_pos_of_neg hm' hsk
      have fin := Lib.hid (show cmpZ (sgn false (Lm.val l)) (sgn true (Lm.val k)) = 1 by have e1 : sgn false (Lm.val l) = (Lm.val l : Int) := rfl; have e2 : sgn true (Lm.val k) = -(Lm.val k : Int) := rfl; rw [e1, e2]; unfold cmpZ; rw [if_neg (by omega), if_pos (by omega)])
      go_wp2
      go_ret
      rw [fin.out]
      exact ⟨rfl, hb0⟩
    | false =>
      have fin := Lib.hid (show Lm.cmpN (Lm.val l) (Lm.val k) = cmpZ (sgn false (Lm.val l)) (sgn false (Lm.val k)) by simp [Lm.cmpN, cmpZ, sgn])
      go_wp2_with fail
      refine (compareLimbs_any w2 A B n c m d l k hAA.1 hAA.2 hBB.1 hBB.2 (mayB_canon hm) (mayB_canon hm')).mono ?_
      rintro e w' ⟨rfl, q, rfl⟩
      go_wp2
      go_ret
      rw [← fin.out]
      exact ⟨rfl, hb0.drewN' q⟩

end Go.Proofs.Ytmcfokeibecopaa

namespace Go.Proofs.Ytmcfokeibecopaa
open Go.RowKit

set_option maxRecDepth 100000 in
theorem wpList_append_run {P : Program} {w w' : World} {ops : Array Oper} {rest : List Oper} {o : Oper} {a : Act} {Q : Exit → Act → World → Prop} (hgd : o.guard = none) (s x : Operand) (t : TypeId)
    (ho : o.op = .call { callee := .builtin .append, args := #[s, x], argTypes := #[t, t] }) (v y v' : Value) (hs : a.eval s = v) (hx : a.eval x = y)
    (hrun : (Builtin.append_ #[t, t] o.type #[v, y]).run P w = .ok v' w') (h : wpList P ops Q rest (a.put o.dst v') w') : wpList P ops Q (o :: rest) a w := by
  refine wpList_plain hgd fun K hK' => ?_
  unfold Oper.wp
  simp [execOp, ho, resolve, invoke, builtin, hs, hx, hrun, Result.andThen]
  exact hK' _ _ h

set_option maxRecDepth 100000 in
/-- append(row, limbs...), the limbs nil, empty or not. -/
theorem append_lim (w : World) (base : Nat) (A0 : Option Addr) (n0 c0 : Nat) (l0 : List Nat) (hown : Own w base A0 n0 c0 l0) (A : Option Addr) (n c : Nat) (l : List Nat) (h : Lim w A n c l) (hn : n0 + n ≤ 100000) (hbase : base ≤ w.heap.size) (ty : TypeId) :
    ∃ A' c' w', (Builtin.append_ #[22, 22] ty #[.slice A0 n0 c0, .slice A n c]).run Try.prog w = .ok (.slice A' (n0 + n) c') w' ∧ Own w' base A' (n0 + n) c' (l0 ++ l) ∧ Below base w w' := by
  obtain ⟨i, hi, hz, hs, hb⟩ := info_limb'
  cases A with
  | none =>
    have h0 : n = 0 := by
      rcases Nat.eq_zero_or_pos n with h0 | h0
      · exact h0
      · obtain ⟨b, o, e, _⟩ := h.2.2.2 h0
        cases e
    subst h0
    have hl : l = [] := List.eq_nil_of_length_eq_zero h.1
    subst hl
    refine ⟨A0, c0, w, ?_, by simpa using hown, Below.refl _ _⟩
    rcases hown.2.2.2 with ⟨hv, h0⟩ | ⟨g, cap, cur, hv, _, _, hnc, _⟩
    · injection hv with hA _ hc
      subst hA hc h0
      simp [Builtin.append_, run_underlying und_limbs, sizeOf, typeInfo, hi, Builtin.lenOf, Builtin.firstCells]
    · injection hv with hA _ hc
      subst hA hc
      simp [Builtin.append_, run_underlying und_limbs, sizeOf, typeInfo, hi, Builtin.lenOf, Builtin.firstCells, hnc, storeCells]
  | some ad =>
    have hcells : ∀ j u, (limbVs l)[j]? = some u → w.cell? (ad.add j) = some u := by
      intro j u hu
      have hj : j < l.length := by
        rcases Nat.lt_or_ge j l.length with hj | hj
        · exact hj
        · rw [List.getElem?_eq_none (by rw [limbVs_len]; exact hj)] at hu; cases hu
      obtain ⟨b, o, e, _, hc⟩ := h.2.2.2 (by have := h.1; omega)
      injection e with e
      subst e
      rw [limbVs_get hj] at hu
      injection hu with hu
      subst hu
      have hadd : (⟨b, o, none⟩ : Addr).add j = ⟨b, o + j, none⟩ := by unfold Addr.add; split <;> simp_all
      rw [hadd]
      exact hc j (by have := h.1; omega)
    have h1 : ∀ u ∈ limbVs l, u.oneCell' = true := by
      intro u hu
      simp only [limbVs, List.mem_map] at hu
      obtain ⟨x, _, rfl⟩ := hu
      rfl
    obtain ⟨v', w', hrun, ho, hg, _⟩ := run_append_own (P := Try.prog) w base 22 ty 60 i (.int .u32 0) 1 4 und_limbs hi hz hs hb rfl (by decide) (.slice A0 n0 c0) n0 (limbVs l0) hown.2.2 ad n c (limbVs l) (by rw [limbVs_len, h.1]; omega) hcells h1 (by unfold maxLen; omega) (by omega) hbase
    have hlen : l0.length = n0 := hown.2.1
    have hform : ∃ A' c', v' = .slice A' (n0 + n) c' := by
      rcases ho.2 with ⟨rfl, h0⟩ | ⟨g, cap, cur, rfl, _⟩
      · exact ⟨none, 0, by rw [h0]⟩
      · exact ⟨_, _, rfl⟩
    obtain ⟨A', c', rfl⟩ := hform
    have happ : limbVs l0 ++ limbVs l = limbVs (l0 ++ l) := by simp [limbVs]
    rw [happ] at ho
    refine ⟨A', c', w', hrun, ⟨Lm.small_append.2 ⟨hown.1, h.2.2.1⟩, by rw [List.length_append, hlen, h.1], ho⟩, ?_⟩
    refine (Below.refl base w).grown hg hbase (fun k hk => ?_)
    exact (World.ownsRow.lt hown.2.2 k hk).1

/-- What a call leaves that makes a row of given limbs. -/
def CopyPost (w : World) (n : Nat) (l : List Nat) (e : Ending) (w' : World) : Prop :=
  ∃ A c, e = .returned (.slice A n c) ∧ Own w' w.heap.size A n c l ∧ Below w.heap.size w w'

set_option maxRecDepth 100000 in
set_option maxHeartbeats 1000000 in
theorem clone_any (w : World) (A : Option Addr) (n c : Nat) (l : List Nat) (h : Raw w A n c l) (hn : n ≤ 1000) :
    Calls Try.prog 68 #[.slice A n c] w (CopyPost w n l) := by
  have hnil := fun w => Lib.run_eql_slice_nil (P := Try.prog) w 22 60 A n c 0 0 und_limbs
  cases A with
  | none =>
    have h0 : n = 0 := by
      rcases Nat.eq_zero_or_pos n with h0 | h0
      · exact h0
      · obtain ⟨b, o, e, _⟩ := h.1.2.2.2 h0
        cases e
    subst h0
    have hl : l = [] := List.eq_nil_of_length_eq_zero h.1.1
    subst hl
    go_enter Try.func68, Try.ntmps68
    go_wp2
    go_ret
    exact ⟨none, 0, rfl, Own.nil _ _, Below.refl _ _⟩
  | some ad =>
    have hown0 : Own (w.alloc (.cells #[] 60)) w.heap.size (some ⟨w.heap.size, 0, none⟩) 0 0 [] := Own.new w w.heap.size [] Lm.small_nil (Nat.le_refl _) (Nat.zero_le _)
    obtain ⟨A', c', w1, hrun, hO, hB⟩ := append_lim (w.alloc (.cells #[] 60)) w.heap.size _ 0 0 [] hown0 (some ad) n c l (h.1.alloc _) (by omega) (by simp) 22
    rw [Nat.zero_add, List.nil_append] at hO
    rw [Nat.zero_add] at hrun
    have hR := Lib.hid hrun
    clear hrun
    go_enter Try.func68, Try.ntmps68
    go_wp2_with (at_builtin; refine wpList_append_run rfl _ _ _ rfl _ _ _ rfl rfl hR.out ?_)
    go_ret
    exact ⟨A', c', rfl, hO, ((Below.refl _ _).alloc (Nat.le_refl _) _).trans hB⟩

/-- num.Neg. -/
def OnePost (w : World) (z : Int) (e : Ending) (w' : World) : Prop := ∃ V, e = .returned V ∧ NumV w' w.heap.size V z ∧ Below w.heap.size w w'

end Go.Proofs.Ytmcfokeibecopaa

namespace Go.Proofs.Ytmcfokeibecopaa
open Go.RowKit

set_option maxRecDepth 100000 in
theorem of_limbs_neg (z : Int) (h1 : -9223372036854775808 ≤ z) (h2 : z < 0) :
    ∃ t : List Nat, (#[Value.int .u32 (IntKind.u64.wrap (-IntKind.u64.wrap z) % 4294967296), Value.int .u32 (IntKind.u64.wrap (-IntKind.u64.wrap z) / 4294967296 % 4294967296)] : Array Value) = arr t ∧ t.length = 2 ∧ Lm.Small t ∧ Lm.val t = z.natAbs := by
  refine ⟨[z.natAbs % 4294967296, z.natAbs / 4294967296], ?_, rfl, ?_, ?_⟩
  · have e1 : IntKind.u64.wrap (-IntKind.u64.wrap z) % 4294967296 = ((z.natAbs % 4294967296 : Nat) : Int) := by rw [IntKind.wrap_u64, IntKind.wrap_u64]; omega
    have e2 : IntKind.u64.wrap (-IntKind.u64.wrap z) / 4294967296 % 4294967296 = ((z.natAbs / 4294967296 : Nat) : Int) := by rw [IntKind.wrap_u64, IntKind.wrap_u64]; omega
    rw [e1, e2]
    rfl
  · intro x hx
    simp at hx
    omega
  · simp only [Lm.val]; omega
set_option maxRecDepth 100000 in
theorem of_limbs_pos (z : Int) (h1 : 0 ≤ z) (h2 : z ≤ 9223372036854775807) :
    ∃ t : List Nat, (#[Value.int .u32 (z % 4294967296), Value.int .u32 (z / 4294967296)] : Array Value) = arr t ∧ t.length = 2 ∧ Lm.Small t ∧ Lm.val t = z.natAbs := by
  refine ⟨[z.natAbs % 4294967296, z.natAbs / 4294967296], ?_, rfl, ?_, ?_⟩
  · have e1 : z % 4294967296 = ((z.natAbs % 4294967296 : Nat) : Int) := by omega
    have e2 : z / 4294967296 = ((z.natAbs / 4294967296 : Nat) : Int) := by omega
    rw [e1, e2]
    rfl
  · intro x hx
    simp at hx
    omega
  · simp only [Lm.val]; omega

set_option maxRecDepth 100000 in
set_option maxHeartbeats 1000000 in
theorem of_neg (w : World) (z : Int) (h1 : -9223372036854775808 ≤ z) (h2 : z < 0) :
    Calls Try.prog 26 #[.int .i64 z] w (OnePost w z) := by
  obtain ⟨t, ht, htl, hts, htv⟩ := of_limbs_neg z h1 h2
  obtain ⟨k, hk0⟩ : ∃ k, k = (Lm.digits (Lm.val t)).length := ⟨_, rfl⟩
  have hT := Lib.hid ht
  have hL := Lib.hid htl
  have hV := Lib.hid htv
  have hK := Lib.hid hk0
  clear ht htl htv hk0
  go_enter Try.func26, Try.ntmps26
  go_wp2_with fail
  rw [hT.out]
  have hb0 := ((Below.refl w.heap.size w).alloc (Nat.le_refl _) (.cells #[.bool false, .slice none 0 0] 24)).alloc (by simp) (.cells (arr t) 60)
  have hxr := (Box.new w (.bool false) (.slice none 0 0)).alloc (.cells (arr t) 60)
  have hown : Own ((w.alloc (.cells #[.bool false, .slice none 0 0] 24)).alloc (.cells (arr t) 60)) w.heap.size (some ⟨w.heap.size + 1, 0, none⟩) 2 2 t := by
    have := Own.new (w.alloc (.cells #[.bool false, .slice none 0 0] 24)) w.heap.size t hts (by simp) (by rw [hL.out]; decide)
    rw [hL.out] at this
    simpa using this
  generalize (w.alloc (.cells #[.bool false, .slice none 0 0] 24)).alloc (.cells (arr t) 60) = W at *
  refine (trimmed_at W _ 2 2 t k hown.lim (by decide) hK).mono ?_
  rintro e w' ⟨rfl, rfl⟩
  have hown2 : Own W w.heap.size (some ⟨w.heap.size + 1, 0, none⟩) k 2 (Lm.digits z.natAbs) := by
    have e := Lm.digits_take hts
    rw [← hK.out, hV.out] at e
    rw [e]
    exact hown.take k (by have h := Lm.digits_small_len hts; rw [hL.out, ← hK.out] at h; exact h)
  go_wp2_with fail
  refine (signed_num W w.heap.size true _ k 2 z.natAbs hown2).mono ?_
  rintro e w1 ⟨_, rfl, ⟨s1, A1, n1, c1, rfl, hs1, ho1⟩, hb⟩
  have hzz : sgn true z.natAbs = z := by unfold sgn; simp; omega
  rw [hzz] at hs1 ho1
  have HZ := Lib.hid hzz
  clear hzz
  have r := hxr.below' hb
  have x0 := r.c0
  have x1 := r.c1
  have f0 := r.f0
  have f1 := r.f1
  go_wp2
  obtain ⟨hB, hNV, hbl⟩ := close_num (base' := w.heap.size) r (Nat.le_refl _) (hb0.trans (hb.mono hb0.size)) hs1 ho1 (Nat.le_refl _)
  generalize (w1.setCell ⟨w.heap.size, 0, none⟩ (.bool s1)).setCell ⟨w.heap.size, 1, none⟩ (.slice A1 n1 c1) = W2 at *
  have hy0 := hB.c0
  have hy1 := hB.c1
  exact bodyPost_ret (v := .agg #[.bool s1, .slice A1 n1 c1]) (by simp [results, Try.results26, go_sem, hy0, hy1]) rfl ⟨_, rfl, hNV, hbl⟩

set_option maxRecDepth 100000 in
set_option maxHeartbeats 1000000 in
theorem of_pos (w : World) (z : Int) (h1 : 0 ≤ z) (h2 : z ≤ 9223372036854775807) :
    Calls Try.prog 26 #[.int .i64 z] w (OnePost w z) := by
  obtain ⟨t, ht, htl, hts, htv⟩ := of_limbs_pos z h1 h2
  obtain ⟨k, hk0⟩ : ∃ k, k = (Lm.digits (Lm.val t)).length := ⟨_, rfl⟩
  have hT := Lib.hid ht
  have hL := Lib.hid htl
  have hV := Lib.hid htv
  have hK := Lib.hid hk0
  clear ht htl htv hk0
  have hz0 : decide (z < 0) = false := by rw [decide_eq_false_iff_not]; omega
  go_enter Try.func26, Try.ntmps26
  go_wp2_with fail
  rw [hT.out]
  have hb0 := ((Below.refl w.heap.size w).alloc (Nat.le_refl _) (.cells #[.bool false, .slice none 0 0] 24)).alloc (by simp) (.cells (arr t) 60)
  have hxr := (Box.new w (.bool false) (.slice none 0 0)).alloc (.cells (arr t) 60)
  have hown : Own ((w.alloc (.cells #[.bool false, .slice none 0 0] 24)).alloc (.cells (arr t) 60)) w.heap.size (some ⟨w.heap.size + 1, 0, none⟩) 2 2 t := by
    have := Own.new (w.alloc (.cells #[.bool false, .slice none 0 0] 24)) w.heap.size t hts (by simp) (by rw [hL.out]; decide)
    rw [hL.out] at this
    simpa using this
  generalize (w.alloc (.cells #[.bool false, .slice none 0 0] 24)).alloc (.cells (arr t) 60) = W at *
  refine (trimmed_at W _ 2 2 t k hown.lim (by decide) hK).mono ?_
  rintro e w' ⟨rfl, rfl⟩
  have hown2 : Own W w.heap.size (some ⟨w.heap.size + 1, 0, none⟩) k 2 (Lm.digits z.natAbs) := by
    have e := Lm.digits_take hts
    rw [← hK.out, hV.out] at e
    rw [e]
    exact hown.take k (by have h := Lm.digits_small_len hts; rw [hL.out, ← hK.out] at h; exact h)
  go_wp2_with fail
  refine (signed_num W w.heap.size false _ k 2 z.natAbs hown2).mono ?_
  rintro e w1 ⟨_, rfl, ⟨s1, A1, n1, c1, rfl, hs1, ho1⟩, hb⟩
  have hzz : sgn false z.natAbs = z := by unfold sgn; simp; omega
  rw [hzz] at hs1 ho1
  have HZ := Lib.hid hzz
  clear hzz
  have r := hxr.below' hb
  have x0 := r.c0
  have x1 := r.c1
  have f0 := r.f0
  have f1 := r.f1
  go_wp2
  obtain ⟨hB, hNV, hbl⟩ := close_num (base' := w.heap.size) r (Nat.le_refl _) (hb0.trans (hb.mono hb0.size)) hs1 ho1 (Nat.le_refl _)
  generalize (w1.setCell ⟨w.heap.size, 0, none⟩ (.bool s1)).setCell ⟨w.heap.size, 1, none⟩ (.slice A1 n1 c1) = W2 at *
  have hy0 := hB.c0
  have hy1 := hB.c1
  exact bodyPost_ret (v := .agg #[.bool s1, .slice A1 n1 c1]) (by simp [results, Try.results26, go_sem, hy0, hy1]) rfl ⟨_, rfl, hNV, hbl⟩

set_option maxRecDepth 100000 in
/-- num.Of. -/
theorem of_any (w : World) (z : Int) (h1 : -9223372036854775808 ≤ z) (h2 : z ≤ 9223372036854775807) : Calls Try.prog 26 #[.int .i64 z] w (OnePost w z) := by
  rcases Int.lt_or_le z 0 with h | h
  · exact of_neg w z h1 h
  · exact of_pos w z h h2

set_option maxRecDepth 100000 in
theorem or_u64 (v x : Nat) (hv : v ≤ 4294967295) (hx : x ≤ 4294967295) : bits .or .u64 (v : Int) ((x : Int) * 4294967296) = ((v + 4294967296 ^ 1 * x : Nat) : Int) := by
  have e : ((x : Int) * 4294967296) = ((x * 4294967296 : Nat) : Int) := by omega
  rw [e, bits_or_u64_nat _ _ (by omega) (by omega)]
  have h := Nat.shiftLeft_add_eq_or_of_lt (a := x) (b := v) (i := 32) (by omega)
  rw [Nat.shiftLeft_eq] at h
  rw [Nat.or_comm, ← h]
  congr 1
  omega
set_option maxRecDepth 100000 in
theorem or_u64_0 (x : Nat) (hx : x ≤ 4294967295) : bits .or .u64 0 (x : Int) = (x : Int) := by
  have h := bits_or_u64_nat 0 x (by omega) (by omega)
  simpa using h

/-- Is z from Least to Greatest? -/
def smallB (z : Int) : Bool := decide (-1152921504606846976 ≤ z) && decide (z ≤ 1152921504606846975)
/-- What num.Small leaves. -/
def SmallPost (w : World) (z : Int) (ok : Bool) (e : Ending) (w' : World) : Prop := e = .returned (.tuple #[.int .i64 z, .bool ok]) ∧ Below w.heap.size w w'

set_option maxRecDepth 100000 in
set_option maxHeartbeats 1000000 in
theorem small_no1 (w : World) (g : Bool) (A : Option Addr) (n c : Nat) (l : List Nat) (h : Raw w A n c l) (hm : mayB g l = false) :
    Calls Try.prog 43 #[.agg #[.bool g, .slice A n c]] w (SmallPost w 0 false) := by
  go_enter Try.func43, Try.ntmps43
  go_wp2_with fail
  have hb0 := ((Below.refl w.heap.size w).alloc (Nat.le_refl _) (.cells #[.bool g, .slice A n c] 24))
  have hxa := Box.new w (.bool g) (.slice A n c)
  have hAA := h.below hb0
  generalize w.alloc (.cells #[.bool g, .slice A n c] 24) = W at *
  refine (may_b W g A n c l hAA).mono ?_
  rintro e w1 ⟨rfl, hb1⟩
  have ya := hxa.below' hb1
  replace hAA := hAA.below hb1
  replace hb0 := hb0.trans (hb1.mono hb0.size)
  clear hxa hb1
  have x1 := ya.c0
  have x2 := ya.c1
  go_wp2
  go_ret2
  exact ⟨rfl, hb0⟩

set_option maxRecDepth 100000 in
set_option maxHeartbeats 1000000 in
theorem small_no2 (w : World) (g : Bool) (A : Option Addr) (n c : Nat) (l : List Nat) (h : Raw w A n c l) (hm : mayB g l = true) (h2 : 2 < n) :
    Calls Try.prog 43 #[.agg #[.bool g, .slice A n c]] w (SmallPost w 0 false) := by
  go_enter Try.func43, Try.ntmps43
  go_wp2_with fail
  have hb0 := ((Below.refl w.heap.size w).alloc (Nat.le_refl _) (.cells #[.bool g, .slice A n c] 24))
  have hxa := Box.new w (.bool g) (.slice A n c)
  have hAA := h.below hb0
  generalize w.alloc (.cells #[.bool g, .slice A n c] 24) = W at *
  refine (may_b W g A n c l hAA).mono ?_
  rintro e w1 ⟨rfl, hb1⟩
  have ya := hxa.below' hb1
  replace hAA := hAA.below hb1
  replace hb0 := hb0.trans (hb1.mono hb0.size)
  clear hxa hb1
  have x1 := ya.c0
  have x2 := ya.c1
  have h2' : decide ((2 : Int) < (n : Int)) = true := by rw [decide_eq_true_iff]; omega
  go_wp2
  go_ret2
  exact ⟨rfl, hb0⟩

set_option maxRecDepth 100000 in
set_option maxHeartbeats 2000000 in
theorem small_neg_in (w : World) (A : Option Addr) (n c : Nat) (l : List Nat) (h : Raw w A n c l) (hm : mayB true l = true) (h2 : n ≤ 2) (hv60 : Lm.val l ≤ 1152921504606846976) :
    Calls Try.prog 43 #[.agg #[.bool true, .slice A n c]] w (SmallPost w (-(Lm.val l : Int)) true) := by
  have h2' : decide ((2 : Int) < (n : Int)) = false := by rw [decide_eq_false_iff_not]; omega
  have h60 := Lib.hid hv60
  clear hv60
  go_enter Try.func43, Try.ntmps43
  go_wp2_with fail
  have hb0 := ((Below.refl w.heap.size w).alloc (Nat.le_refl _) (.cells #[.bool true, .slice A n c] 24))
  have hxa := Box.new w (.bool true) (.slice A n c)
  have hAA := h.below hb0
  generalize w.alloc (.cells #[.bool true, .slice A n c] 24) = W at *
  refine (may_b W true A n c l hAA).mono ?_
  rintro e w1 ⟨rfl, hb1⟩
  have ya := hxa.below' hb1
  replace hAA := hAA.below hb1
  replace hb0 := hb0.trans (hb1.mono hb0.size)
  clear hxa hb1
  have x1 := ya.c0
  have x2 := ya.c1
  go_wp2
  go_loop [4, 19] (fun u i => ∃ (j v : Nat), j ≤ n ∧ i = .int .i64 (j : Int) ∧ u = .int .u64 (v : Int) ∧ Hid (v = Lm.val (l.take j))) (fun _ i => n - (intOf i).toNat)
  case atStart => exact ⟨0, 0, Nat.zero_le _, rfl, rfl, Lib.hid rfl⟩
  case round =>
    obtain ⟨j, v, hj, rfl, rfl, hv⟩ := hrel
    by_cases h0 : j < n
    · obtain ⟨b, o, rfl, hb, hcell⟩ := hAA.1.2.2.2 (by omega)
      have hg := hcell j h0
      obtain ⟨x, hx⟩ : ∃ x, x = Lm.lg l j := ⟨_, rfl⟩
      have hl0 : x ≤ 4294967295 := by rw [hx]; have := Lm.lg_lt hAA.1.2.2.1 j; omega
      rw [← hx] at hg
      have hX := Lib.hid hx
      have hstep := Lib.hid (show Lm.val (l.take (j + 1)) = v + 4294967296 ^ j * x by rw [Lm.val_take_succ, hv.out, hx])
      clear hcell hx
      have hj2 : j = 0 ∨ j = 1 := by omega
      rcases hj2 with rfl | rfl
      · have hv0 : v = 0 := hv.out
        subst hv0
        rw [Nat.add_zero] at hg
        go_wp2
        go_round
        case rel => exact ⟨1, x, by omega, by go_num, by rw [or_u64_0 x hl0], Lib.hid (by rw [hstep.out]; simp)⟩
        case measure => simp [intOf]; omega
      · have hvl : v ≤ 4294967295 := by
          rw [hv.out]
          have := Lm.val_lt (Lm.small_take hAA.1.2.2.1 1)
          rw [List.length_take, Nat.min_eq_left (by rw [hAA.1.1]; omega)] at this
          omega
        go_wp2
        rw [or_u64 v x hvl hl0]
        exact ⟨⟨2, _, by omega, by go_num, rfl, Lib.hid hstep.out.symm⟩, by simp [intOf]; omega⟩
    · have hjn : j = n := by omega
      subst hjn
      have hvl := Lib.hid (show v = Lm.val l by rw [hv.out, List.take_of_length_le (by rw [hAA.1.1]; exact Nat.le_refl _)])
      have h60' := h60.out
      have ht : decide ((v : Int) ≤ 1152921504606846976) = true := by rw [decide_eq_true_iff]; rw [hvl.out]; omega
      have hvb : v ≤ 1152921504606846976 := by rw [hvl.out]; omega
      clear h60'
      go_wp2
      go_ret2
      exact ⟨by rw [hvl.out]; rfl, hb0⟩

set_option maxRecDepth 100000 in
set_option maxHeartbeats 2000000 in
theorem small_neg_out (w : World) (A : Option Addr) (n c : Nat) (l : List Nat) (h : Raw w A n c l) (hm : mayB true l = true) (h2 : n ≤ 2) (hv60 : 1152921504606846976 < Lm.val l) :
    Calls Try.prog 43 #[.agg #[.bool true, .slice A n c]] w (SmallPost w (0) false) := by
  have h2' : decide ((2 : Int) < (n : Int)) = false := by rw [decide_eq_false_iff_not]; omega
  have h60 := Lib.hid hv60
  clear hv60
  go_enter Try.func43, Try.ntmps43
  go_wp2_with fail
  have hb0 := ((Below.refl w.heap.size w).alloc (Nat.le_refl _) (.cells #[.bool true, .slice A n c] 24))
  have hxa := Box.new w (.bool true) (.slice A n c)
  have hAA := h.below hb0
  generalize w.alloc (.cells #[.bool true, .slice A n c] 24) = W at *
  refine (may_b W true A n c l hAA).mono ?_
  rintro e w1 ⟨rfl, hb1⟩
  have ya := hxa.below' hb1
  replace hAA := hAA.below hb1
  replace hb0 := hb0.trans (hb1.mono hb0.size)
  clear hxa hb1
  have x1 := ya.c0
  have x2 := ya.c1
  go_wp2
  go_loop [4, 19] (fun u i => ∃ (j v : Nat), j ≤ n ∧ i = .int .i64 (j : Int) ∧ u = .int .u64 (v : Int) ∧ Hid (v = Lm.val (l.take j))) (fun _ i => n - (intOf i).toNat)
  case atStart => exact ⟨0, 0, Nat.zero_le _, rfl, rfl, Lib.hid rfl⟩
  case round =>
    obtain ⟨j, v, hj, rfl, rfl, hv⟩ := hrel
    by_cases h0 : j < n
    · obtain ⟨b, o, rfl, hb, hcell⟩ := hAA.1.2.2.2 (by omega)
      have hg := hcell j h0
      obtain ⟨x, hx⟩ : ∃ x, x = Lm.lg l j := ⟨_, rfl⟩
      have hl0 : x ≤ 4294967295 := by rw [hx]; have := Lm.lg_lt hAA.1.2.2.1 j; omega
      rw [← hx] at hg
      have hX := Lib.hid hx
      have hstep := Lib.hid (show Lm.val (l.take (j + 1)) = v + 4294967296 ^ j * x by rw [Lm.val_take_succ, hv.out, hx])
      clear hcell hx
      have hj2 : j = 0 ∨ j = 1 := by omega
      rcases hj2 with rfl | rfl
      · have hv0 : v = 0 := hv.out
        subst hv0
        rw [Nat.add_zero] at hg
        go_wp2
        go_round
        case rel => exact ⟨1, x, by omega, by go_num, by rw [or_u64_0 x hl0], Lib.hid (by rw [hstep.out]; simp)⟩
        case measure => simp [intOf]; omega
      · have hvl : v ≤ 4294967295 := by
          rw [hv.out]
          have := Lm.val_lt (Lm.small_take hAA.1.2.2.1 1)
          rw [List.length_take, Nat.min_eq_left (by rw [hAA.1.1]; omega)] at this
          omega
        go_wp2
        rw [or_u64 v x hvl hl0]
        exact ⟨⟨2, _, by omega, by go_num, rfl, Lib.hid hstep.out.symm⟩, by simp [intOf]; omega⟩
    · have hjn : j = n := by omega
      subst hjn
      have hvl := Lib.hid (show v = Lm.val l by rw [hv.out, List.take_of_length_le (by rw [hAA.1.1]; exact Nat.le_refl _)])
      have h60' := h60.out
      have ht : decide ((v : Int) ≤ 1152921504606846976) = false := by rw [decide_eq_false_iff_not]; rw [hvl.out]; omega
      skip
      clear h60'
      go_wp2
      go_ret2
      exact ⟨rfl, hb0⟩

set_option maxRecDepth 100000 in
set_option maxHeartbeats 2000000 in
theorem small_pos_in (w : World) (A : Option Addr) (n c : Nat) (l : List Nat) (h : Raw w A n c l) (hm : mayB false l = true) (h2 : n ≤ 2) (hv60 : Lm.val l ≤ 1152921504606846975) :
    Calls Try.prog 43 #[.agg #[.bool false, .slice A n c]] w (SmallPost w ((Lm.val l : Int)) true) := by
  have h2' : decide ((2 : Int) < (n : Int)) = false := by rw [decide_eq_false_iff_not]; omega
  have h60 := Lib.hid hv60
  clear hv60
  go_enter Try.func43, Try.ntmps43
  go_wp2_with fail
  have hb0 := ((Below.refl w.heap.size w).alloc (Nat.le_refl _) (.cells #[.bool false, .slice A n c] 24))
  have hxa := Box.new w (.bool false) (.slice A n c)
  have hAA := h.below hb0
  generalize w.alloc (.cells #[.bool false, .slice A n c] 24) = W at *
  refine (may_b W false A n c l hAA).mono ?_
  rintro e w1 ⟨rfl, hb1⟩
  have ya := hxa.below' hb1
  replace hAA := hAA.below hb1
  replace hb0 := hb0.trans (hb1.mono hb0.size)
  clear hxa hb1
  have x1 := ya.c0
  have x2 := ya.c1
  go_wp2
  go_loop [4, 19] (fun u i => ∃ (j v : Nat), j ≤ n ∧ i = .int .i64 (j : Int) ∧ u = .int .u64 (v : Int) ∧ Hid (v = Lm.val (l.take j))) (fun _ i => n - (intOf i).toNat)
  case atStart => exact ⟨0, 0, Nat.zero_le _, rfl, rfl, Lib.hid rfl⟩
  case round =>
    obtain ⟨j, v, hj, rfl, rfl, hv⟩ := hrel
    by_cases h0 : j < n
    · obtain ⟨b, o, rfl, hb, hcell⟩ := hAA.1.2.2.2 (by omega)
      have hg := hcell j h0
      obtain ⟨x, hx⟩ : ∃ x, x = Lm.lg l j := ⟨_, rfl⟩
      have hl0 : x ≤ 4294967295 := by rw [hx]; have := Lm.lg_lt hAA.1.2.2.1 j; omega
      rw [← hx] at hg
      have hX := Lib.hid hx
      have hstep := Lib.hid (show Lm.val (l.take (j + 1)) = v + 4294967296 ^ j * x by rw [Lm.val_take_succ, hv.out, hx])
      clear hcell hx
      have hj2 : j = 0 ∨ j = 1 := by omega
      rcases hj2 with rfl | rfl
      · have hv0 : v = 0 := hv.out
        subst hv0
        rw [Nat.add_zero] at hg
        go_wp2
        go_round
        case rel => exact ⟨1, x, by omega, by go_num, by rw [or_u64_0 x hl0], Lib.hid (by rw [hstep.out]; simp)⟩
        case measure => simp [intOf]; omega
      · have hvl : v ≤ 4294967295 := by
          rw [hv.out]
          have := Lm.val_lt (Lm.small_take hAA.1.2.2.1 1)
          rw [List.length_take, Nat.min_eq_left (by rw [hAA.1.1]; omega)] at this
          omega
        go_wp2
        rw [or_u64 v x hvl hl0]
        exact ⟨⟨2, _, by omega, by go_num, rfl, Lib.hid hstep.out.symm⟩, by simp [intOf]; omega⟩
    · have hjn : j = n := by omega
      subst hjn
      have hvl := Lib.hid (show v = Lm.val l by rw [hv.out, List.take_of_length_le (by rw [hAA.1.1]; exact Nat.le_refl _)])
      have h60' := h60.out
      have ht : decide ((v : Int) ≤ 1152921504606846975) = true := by rw [decide_eq_true_iff]; rw [hvl.out]; omega
      have hvb : v ≤ 1152921504606846976 := by rw [hvl.out]; omega
      clear h60'
      go_wp2
      go_ret2
      exact ⟨by rw [hvl.out]; rfl, hb0⟩

set_option maxRecDepth 100000 in
set_option maxHeartbeats 2000000 in
theorem small_pos_out (w : World) (A : Option Addr) (n c : Nat) (l : List Nat) (h : Raw w A n c l) (hm : mayB false l = true) (h2 : n ≤ 2) (hv60 : 1152921504606846975 < Lm.val l) :
    Calls Try.prog 43 #[.agg #[.bool false, .slice A n c]] w (SmallPost w (0) false) := by
  have h2' : decide ((2 : Int) < (n : Int)) = false := by rw [decide_eq_false_iff_not]; omega
  have h60 := Lib.hid hv60
  clear hv60
  go_enter Try.func43, Try.ntmps43
  go_wp2_with fail
  have hb0 := ((Below.refl w.heap.size w).alloc (Nat.le_refl _) (.cells #[.bool false, .slice A n c] 24))
  have hxa := Box.new w (.bool false) (.slice A n c)
  have hAA := h.below hb0
  generalize w.alloc (.cells #[.bool false, .slice A n c] 24) = W at *
  refine (may_b W false A n c l hAA).mono ?_
  rintro e w1 ⟨rfl, hb1⟩
  have ya := hxa.below' hb1
  replace hAA := hAA.below hb1
  replace hb0 := hb0.trans (hb1.mono hb0.size)
  clear hxa hb1
  have x1 := ya.c0
  have x2 := ya.c1
  go_wp2
  go_loop [4, 19] (fun u i => ∃ (j v : Nat), j ≤ n ∧ i = .int .i64 (j : Int) ∧ u = .int .u64 (v : Int) ∧ Hid (v = Lm.val (l.take j))) (fun _ i => n - (intOf i).toNat)
  case atStart => exact ⟨0, 0, Nat.zero_le _, rfl, rfl, Lib.hid rfl⟩
  case round =>
    obtain ⟨j, v, hj, rfl, rfl, hv⟩ := hrel
    by_cases h0 : j < n
    · obtain ⟨b, o, rfl, hb, hcell⟩ := hAA.1.2.2.2 (by omega)
      have hg := hcell j h0
      obtain ⟨x, hx⟩ : ∃ x, x = Lm.lg l j := ⟨_, rfl⟩
      have hl0 : x ≤ 4294967295 := by rw [hx]; have := Lm.lg_lt hAA.1.2.2.1 j; omega
      rw [← hx] at hg
      have hX := Lib.hid hx
      have hstep := Lib.hid (show Lm.val (l.take (j + 1)) = v + 4294967296 ^ j * x by rw [Lm.val_take_succ, hv.out, hx])
      clear hcell hx
      have hj2 : j = 0 ∨ j = 1 := by omega
      rcases hj2 with rfl | rfl
      · have hv0 : v = 0 := hv.out
        subst hv0
        rw [Nat.add_zero] at hg
        go_wp2
        go_round
        case rel => exact ⟨1, x, by omega, by go_num, by rw [or_u64_0 x hl0], Lib.hid (by rw [hstep.out]; simp)⟩
        case measure => simp [intOf]; omega
      · have hvl : v ≤ 4294967295 := by
          rw [hv.out]
          have := Lm.val_lt (Lm.small_take hAA.1.2.2.1 1)
          rw [List.length_take, Nat.min_eq_left (by rw [hAA.1.1]; omega)] at this
          omega
        go_wp2
        rw [or_u64 v x hvl hl0]
        exact ⟨⟨2, _, by omega, by go_num, rfl, Lib.hid hstep.out.symm⟩, by simp [intOf]; omega⟩
    · have hjn : j = n := by omega
      subst hjn
      have hvl := Lib.hid (show v = Lm.val l by rw [hv.out, List.take_of_length_le (by rw [hAA.1.1]; exact Nat.le_refl _)])
      have h60' := h60.out
      have ht : decide ((v : Int) ≤ 1152921504606846975) = false := by rw [decide_eq_false_iff_not]; rw [hvl.out]; omega
      skip
      clear h60'
      go_wp2
      go_ret2
      exact ⟨rfl, hb0⟩

set_option maxRecDepth 100000 in
/-- num.Small, of a number that may be. -/
theorem small_yes (w : World) (g : Bool) (A : Option Addr) (n c : Nat) (l : List Nat) (h : Raw w A n c l) (hm : mayB g l = true) :
    Calls Try.prog 43 #[.agg #[.bool g, .slice A n c]] w (SmallPost w (if smallB (sgn g (Lm.val l)) then sgn g (Lm.val l) else 0) (smallB (sgn g (Lm.val l)))) := by
  have hcan := mayB_canon hm
  have hsm := h.1.2.2.1
  by_cases h2 : n ≤ 2
  · cases g with
    | true =>
      by_cases hv : Lm.val l ≤ 1152921504606846976
      · have e : smallB (sgn true (Lm.val l)) = true := by simp [smallB, sgn]; omega
        rw [e, if_pos rfl]
        exact small_neg_in w A n c l h hm h2 hv
      · have e : smallB (sgn true (Lm.val l)) = false := by simp [smallB, sgn]; omega
        rw [e]
        exact small_neg_out w A n c l h hm h2 (by omega)
    | false =>
      by_cases hv : Lm.val l ≤ 1152921504606846975
      · have e : smallB (sgn false (Lm.val l)) = true := by simp [smallB, sgn]; omega
        rw [e, if_pos rfl]
        exact small_pos_in w A n c l h hm h2 hv
      · have e : smallB (sgn false (Lm.val l)) = false := by simp [smallB, sgn]; omega
        rw [e]
        exact small_pos_out w A n c l h hm h2 (by omega)
  · have hbig : ¬ Lm.val l < 4294967296 ^ 2 := fun hlt => by
      have := (Lm.digits_length (Lm.val l) 2).2 hlt
      rw [Lm.digits_val hsm hcan, h.1.1] at this
      exact h2 this
    have e : smallB (sgn g (Lm.val l)) = false := by
      cases g <;> simp [smallB, sgn] <;> omega
    rw [e]
    exact small_no2 w g A n c l h hm (by omega)

end Go.Proofs.Ytmcfokeibecopaa

namespace Go.Proofs.Ytmcfokeibecopaa
open Go.RowKit

/-- The value '.agg #[.bool s, .slice A n c]' is the integer z. -/
def Nm (w : World) (s : Bool) (A : Option Addr) (n c : Nat) (z : Int) : Prop := Raw w A n c (Lm.digits z.natAbs) ∧ Hid (s = decide (z < 0))

section
variable {w w' : World} {s : Bool} {A : Option Addr} {n c : Nat} {z : Int}
set_option maxRecDepth 100000 in
theorem Nm.below (h : Nm w s A n c z) (hb : Below w.heap.size w w') : Nm w' s A n c z := ⟨h.1.below hb, h.2⟩
set_option maxRecDepth 100000 in
theorem Nm.of_own {base : Nat} (hs : Hid (s = decide (z < 0))) (ho : Own w base A n c (Lm.digits z.natAbs)) : Nm w s A n c z := ⟨⟨ho.lim, ho.cap.2⟩, hs⟩
set_option maxRecDepth 100000 in
theorem Nm.eqZ (h : Nm w s A n c z) : sgn s (Lm.val (Lm.digits z.natAbs)) = z := by
  rw [Lm.val_digits, h.2.out]
  unfold sgn
  by_cases hz : z < 0
  · simp [hz]; omega
  · simp [hz]; omega
set_option maxRecDepth 100000 in
theorem Nm.may (h : Nm w s A n c z) (ht : z.natAbs < Lm.top) : mayB s (Lm.digits z.natAbs) = true := by
  unfold mayB
  by_cases h0 : (Lm.digits z.natAbs).length = 0
  · rw [if_pos h0]
    have : z.natAbs = 0 := Lm.digits_eq_nil.1 (List.eq_nil_of_length_eq_zero h0)
    have hs := h.2.out
    have hz : z = 0 := by omega
    subst hz
    rw [hs]
    rfl
  · rw [if_neg h0]
    have h1 := (Lm.top_iff _).2 ht
    have h2 := Lm.canon_digits z.natAbs (by omega)
    simp [h1]
    exact h2
end
set_option maxRecDepth 100000 in
/-- Limbs that may be are an integer. -/
theorem nm_of_raw {w : World} {g : Bool} {A : Option Addr} {n c : Nat} {l : List Nat} (h : Raw w A n c l) (hm : mayB g l = true) : Nm w g A n c (sgn g (Lm.val l)) := by
  have hd := Lm.digits_val h.1.2.2.1 (mayB_canon hm)
  refine ⟨?_, ?_⟩
  · rw [natAbs_sgn, hd]; exact h
  · refine Lib.hid ?_
    cases g with
    | false => simp [sgn]
    | true =>
      have := val_pos_of_neg hm h.1.2.2.1
      simp [sgn]; omega
set_option maxRecDepth 100000 in
theorem top_of_may {g : Bool} {l : List Nat} (hs : Lm.Small l) (hm : mayB g l = true) : (sgn g (Lm.val l)).natAbs < Lm.top := by
  rw [natAbs_sgn]
  refine (Lm.top_iff _).1 ?_
  rw [Lm.digits_val hs (mayB_canon hm)]
  exact mayB_len hm

section
variable (w : World) (s s' : Bool) (A B : Option Addr) (n c m d : Nat) (z z' : Int) (h : Nm w s A n c z) (h' : Nm w s' B m d z') (ht : z.natAbs < Lm.top) (ht' : z'.natAbs < Lm.top)
include h h' ht ht'
set_option maxRecDepth 100000 in
theorem cmp_z : Calls Try.prog 57 #[.agg #[.bool s, .slice A n c], .agg #[.bool s', .slice B m d]] w (IntPost w (cmpZ z z')) := by
  have := cmp_yes w s s' A B n c m d _ _ h.1 h'.1 (h.may ht) (h'.may ht')
  rwa [h.eqZ, h'.eqZ] at this
end
section
variable (w : World) (s : Bool) (A : Option Addr) (n c : Nat) (z : Int) (h : Nm w s A n c z) (ht : z.natAbs < Lm.top)
include h ht
set_option maxRecDepth 100000 in
theorem small_z : Calls Try.prog 43 #[.agg #[.bool s, .slice A n c]] w (SmallPost w (if smallB z then z else 0) (smallB z)) := by
  have := small_yes w s A n c _ h.1 (h.may ht)
  rwa [h.eqZ] at this
set_option maxRecDepth 100000 in
theorem may_z : Calls Try.prog 44 #[.agg #[.bool s, .slice A n c]] w fun e w' => e = .returned (.bool true) ∧ Below w.heap.size w w' := by
  have := may_b w s A n c _ h.1
  rwa [h.may ht] at this
end

set_option maxRecDepth 100000 in
theorem same_z (w : World) (s s' : Bool) (A B : Option Addr) (n c m d : Nat) (z z' : Int) (h : Nm w s A n c z) (h' : Nm w s' B m d z') :
    Calls Try.prog 42 #[.agg #[.bool s, .slice A n c], .agg #[.bool s', .slice B m d]] w fun e w' => e = .returned (.bool (decide (z = z'))) ∧ Below w.heap.size w w' := by
  have := sameNum_any w s s' A B n c m d _ _ h.1.1 h.1.2 h'.1.1 h'.1.2
  have e : sameB s s' (Lm.digits z.natAbs) (Lm.digits z'.natAbs) = decide (z = z') := by
    unfold sameB
    rw [h.2.out, h'.2.out]
    by_cases hz : z = z'
    · subst hz; simp
    · rw [decide_eq_false hz]
      by_cases hs : (decide (z < 0) == decide (z' < 0)) = true
      · rw [hs, Bool.true_and, decide_eq_false_iff_not]
        intro hd
        have h1 := congrArg Lm.val hd
        rw [Lm.val_digits, Lm.val_digits] at h1
        simp at hs
        omega
      · simp at hs; simp [hs]
  rwa [e] at this
set_option maxRecDepth 100000 in
/-- Of two that are one. -/
theorem same_z' (w : World) (s s' : Bool) (A B : Option Addr) (n c m d : Nat) (z z' : Int) (h : Nm w s A n c z) (h' : Nm w s' B m d z') (e : z = z') :
    Calls Try.prog 42 #[.agg #[.bool s, .slice A n c], .agg #[.bool s', .slice B m d]] w fun e w' => e = .returned (.bool true) ∧ Below w.heap.size w w' := by
  have := same_z w s s' A B n c m d z z' h h'
  rwa [decide_eq_true e] at this

set_option maxRecDepth 100000 in
theorem Lm.top_ge : 340282366920938463463374607431768211456 < Lm.top := by decide
set_option maxRecDepth 100000 in
theorem clip_small {z : Int} (h : z.natAbs < Lm.top) : clip z = z := if_pos h
set_option maxRecDepth 100000 in
theorem fits_small {z : Int} (h : z.natAbs < Lm.top) : fits z = true := decide_eq_true h

end Go.Proofs.Ytmcfokeibecopaa
