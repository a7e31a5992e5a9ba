/-
  CONTRACTS OF num.Add, Sub, Mul, Neg, Cmp, Small, Of.
-/
import Derived.Test.YtgencmjdejgkoaaNumB
namespace Go.Proofs.Ytgencmjdejgkoaa
open Go.RowKit

theorem sgn_add (g : Bool) (a b : Nat) : sgn g (a + b) = sgn g a + sgn g b := by cases g <;> simp [sgn] <;> omega
theorem sgn_less {g g' : Bool} (h : g ≠ g') {a b : Nat} (hl : a < b) : sgn g' (b - a) = sgn g a + sgn g' b := by
  cases g <;> cases g' <;> simp [sgn] at h ⊢ <;> omega
theorem sgn_more {g g' : Bool} (h : g ≠ g') {a b : Nat} (hl : b ≤ a) : sgn g (a - b) = sgn g a + sgn g' b := by
  cases g <;> cases g' <;> simp [sgn] at h ⊢ <;> omega
theorem sgn_not (g : Bool) (a : Nat) : sgn (!g) a = - sgn g a := by cases g <;> simp [sgn]
theorem sgn_mul (g g' : Bool) (a b : Nat) : sgn (!(g == g')) (a * b) = sgn g a * sgn g' b := by cases g <;> cases g' <;> simp [sgn, Int.neg_mul, Int.mul_neg]

/-- Limbs that came in, of any make. -/
def Raw (w : World) (A : Option Addr) (n c : Nat) (l : List Nat) : Prop := Lim w A n c l ∧ c ≤ maxLen
theorem Raw.below {w w' : World} {A : Option Addr} {n c : Nat} {l : List Nat} (h : Raw w A n c l) (hb : Below w.heap.size w w') : Raw w' A n c l := ⟨h.1.below hb, h.2⟩
theorem Raw.drewN {w : World} {A : Option Addr} {n c : Nat} {l : List Nat} (h : Raw w A n c l) (q : Nat) : Raw (w.drewN q) A n c l := h

theorem mayB_len {g : Bool} {l : List Nat} (h : mayB g l = true) : l.length ≤ 8 := by
  unfold mayB at h
  by_cases h0 : l.length = 0
  · omega
  · rw [if_neg h0] at h; simp at h; exact h.1
theorem mayB_canon {g : Bool} {l : List Nat} (h : mayB g l = true) : Lm.Canon l := by
  intro h0
  unfold mayB at h
  rw [if_neg (by omega)] at h
  simp at h
  exact h.2
theorem Raw.arg {w : World} {g : Bool} {A : Option Addr} {n c : Nat} {l : List Nat} (h : Raw w A n c l) (hm : mayB g l = true) : Arg w A n c (Lm.val l) := by
  unfold Arg
  rw [Lm.digits_val h.1.2.2.1 (mayB_canon hm)]
  exact ⟨h.1, h.2, by have := mayB_len hm; rw [h.1.1] at this; omega⟩

theorem may_b (w : World) (g : Bool) (A : Option Addr) (n c : Nat) (l : List Nat) (h : Raw w A n c l) :
    Calls Try.prog 44 #[.agg #[.bool g, .slice A n c]] w fun e w' => e = .returned (.bool (mayB g l)) ∧ Below w.heap.size w w' :=
  (may_any w g A n c l h.1 h.2).mono fun _ _ ⟨he, hw⟩ => ⟨he, by rw [hw]; exact (Below.refl _ _).alloc (Nat.le_refl _) _⟩

/-- How two integers stand. -/
def cmpZ (a b : Int) : Int := if a < b then -1 else if b < a then 1 else 0
/-- What a call leaves that answers an int. -/
def IntPost (w : World) (z : Int) (e : Ending) (w' : World) : Prop := e = .returned (.int .i64 z) ∧ Below w.heap.size w w'

set_option maxHeartbeats 1000000 in
theorem cmp_no1 (w : World) (g g' : Bool) (A B : Option Addr) (n c m d : Nat) (l k : List Nat) (h : Raw w A n c l) (h' : Raw w B m d k) (hm : mayB g l = false) : Calls Try.prog 48 #[.agg #[.bool g, .slice A n c], .agg #[.bool g', .slice B m d]] w (IntPost w 0) := by
  go_enter Try.func48, Try.ntmps48
  go_wp2_with fail
  have hb0 := (((Below.refl w.heap.size w).alloc (Nat.le_refl _) (.cells #[.bool g, .slice A n c] 31)).alloc (by simp) (.cells #[.bool g', .slice B m d] 31))
  have hxa := ((Box.new w (.bool g) (.slice A n c)).alloc (.cells #[.bool g', .slice B m d] 31))
  have hxb := (Box.new (w.alloc (.cells #[.bool g, .slice A n c] 31)) (.bool g') (.slice B m d))
  simp only [World.size_alloc] at hxb
  have hAA := h.below hb0
  have hBB := h'.below hb0
  generalize ((w.alloc (.cells #[.bool g, .slice A n c] 31)).alloc (.cells #[.bool g', .slice B m d] 31)) = W at *
  have x1 := hxa.c0
  have x2 := hxa.c1
  refine (may_b W g A n c l hAA).mono ?_
  rintro e w1 ⟨rfl, hb1⟩
  have ya := hxa.below' hb1
  have yb := hxb.below' hb1
  skip
  replace hAA := hAA.below hb1
  replace hBB := hBB.below hb1
  replace hb0 := hb0.trans (hb1.mono hb0.size)
  clear hxa hxb  x1 x2 hb1
  have x1 := ya.c0
  have x2 := ya.c1
  have x3 := yb.c0
  have x4 := yb.c1
  go_wp2
  go_ret
  exact ⟨rfl, hb0⟩
set_option maxHeartbeats 1000000 in
theorem cmp_no2 (w : World) (g g' : Bool) (A B : Option Addr) (n c m d : Nat) (l k : List Nat) (h : Raw w A n c l) (h' : Raw w B m d k) (hm : mayB g l = true) (hm' : mayB g' k = false) : Calls Try.prog 48 #[.agg #[.bool g, .slice A n c], .agg #[.bool g', .slice B m d]] w (IntPost w 0) := by
  go_enter Try.func48, Try.ntmps48
  go_wp2_with fail
  have hb0 := (((Below.refl w.heap.size w).alloc (Nat.le_refl _) (.cells #[.bool g, .slice A n c] 31)).alloc (by simp) (.cells #[.bool g', .slice B m d] 31))
  have hxa := ((Box.new w (.bool g) (.slice A n c)).alloc (.cells #[.bool g', .slice B m d] 31))
  have hxb := (Box.new (w.alloc (.cells #[.bool g, .slice A n c] 31)) (.bool g') (.slice B m d))
  simp only [World.size_alloc] at hxb
  have hAA := h.below hb0
  have hBB := h'.below hb0
  generalize ((w.alloc (.cells #[.bool g, .slice A n c] 31)).alloc (.cells #[.bool g', .slice B m d] 31)) = W at *
  have x1 := hxa.c0
  have x2 := hxa.c1
  refine (may_b W g A n c l hAA).mono ?_
  rintro e w1 ⟨rfl, hb1⟩
  have ya := hxa.below' hb1
  have yb := hxb.below' hb1
  skip
  replace hAA := hAA.below hb1
  replace hBB := hBB.below hb1
  replace hb0 := hb0.trans (hb1.mono hb0.size)
  clear hxa hxb  x1 x2 hb1
  have x1 := ya.c0
  have x2 := ya.c1
  have x3 := yb.c0
  have x4 := yb.c1
  go_wp2_with fail
  refine (may_b w1 g' B m d k hBB).mono ?_
  rintro e w2 ⟨rfl, hb2⟩
  have za := ya.below' hb2
  have zb := yb.below' hb2
  skip
  replace hAA := hAA.below hb2
  replace hBB := hBB.below hb2
  replace hb0 := hb0.trans (hb2.mono hb0.size)
  clear ya yb  x1 x2 x3 x4 hb2
  have x1 := za.c0
  have x2 := za.c1
  have x3 := zb.c0
  have x4 := zb.c1
  go_wp2
  go_ret
  exact ⟨rfl, hb0⟩
theorem val_pos_of_neg {l : List Nat} (h : mayB true l = true) (hs : Lm.Small l) : 0 < Lm.val l := by
  rcases Nat.eq_zero_or_pos (Lm.val l) with h0 | h0
  · have := Lm.val_eq_zero (mayB_canon h) h0
    subst this
    simp [mayB] at h
  · exact h0
set_option maxHeartbeats 2000000 in
theorem cmp_yes (w : World) (g g' : Bool) (A B : Option Addr) (n c m d : Nat) (l k : List Nat) (h : Raw w A n c l) (h' : Raw w B m d k) (hm : mayB g l = true) (hm' : mayB g' k = true) :
    Calls Try.prog 48 #[.agg #[.bool g, .slice A n c], .agg #[.bool g', .slice B m d]] w (IntPost w (cmpZ (sgn g (Lm.val l)) (sgn g' (Lm.val k)))) := by
  have hsl := h.1.2.2.1
  have hsk := h'.1.2.2.1
  go_enter Try.func48, Try.ntmps48
  go_wp2_with fail
  have hb0 := (((Below.refl w.heap.size w).alloc (Nat.le_refl _) (.cells #[.bool g, .slice A n c] 31)).alloc (by simp) (.cells #[.bool g', .slice B m d] 31))
  have hxa := ((Box.new w (.bool g) (.slice A n c)).alloc (.cells #[.bool g', .slice B m d] 31))
  have hxb := (Box.new (w.alloc (.cells #[.bool g, .slice A n c] 31)) (.bool g') (.slice B m d))
  simp only [World.size_alloc] at hxb
  have hAA := h.below hb0
  have hBB := h'.below hb0
  generalize ((w.alloc (.cells #[.bool g, .slice A n c] 31)).alloc (.cells #[.bool g', .slice B m d] 31)) = W at *
  have x1 := hxa.c0
  have x2 := hxa.c1
  refine (may_b W g A n c l hAA).mono ?_
  rintro e w1 ⟨rfl, hb1⟩
  have ya := hxa.below' hb1
  have yb := hxb.below' hb1
  skip
  replace hAA := hAA.below hb1
  replace hBB := hBB.below hb1
  replace hb0 := hb0.trans (hb1.mono hb0.size)
  clear hxa hxb  x1 x2 hb1
  have x1 := ya.c0
  have x2 := ya.c1
  have x3 := yb.c0
  have x4 := yb.c1
  go_wp2_with fail
  refine (may_b w1 g' B m d k hBB).mono ?_
  rintro e w2 ⟨rfl, hb2⟩
  have za := ya.below' hb2
  have zb := yb.below' hb2
  skip
  replace hAA := hAA.below hb2
  replace hBB := hBB.below hb2
  replace hb0 := hb0.trans (hb2.mono hb0.size)
  clear ya yb  x1 x2 x3 x4 hb2
  have x1 := za.c0
  have x2 := za.c1
  have x3 := zb.c0
  have x4 := zb.c1
  cases g with
  | true =>
    cases g' with
    | true =>
      have fin := Lib.hid (show Lm.cmpN (Lm.val k) (Lm.val l) = cmpZ (sgn true (Lm.val l)) (sgn true (Lm.val k)) by simp [Lm.cmpN, cmpZ, sgn])
      go_wp2_with fail
      refine (compareLimbs_any w2 B A m d n c k l hBB.1 hBB.2 hAA.1 hAA.2 (mayB_canon hm') (mayB_canon hm)).mono ?_
      rintro e w' ⟨rfl, q, rfl⟩
      go_wp2
      go_ret
      rw [← fin.out]
      exact ⟨rfl, hb0.drewN' q⟩
    | false =>
      have hp := val_pos_of_neg hm hsl
      have fin := Lib.hid (show cmpZ (sgn true (Lm.val l)) (sgn false (Lm.val k)) = -1 by have e1 : sgn true (Lm.val l) = -(Lm.val l : Int) := rfl; have e2 : sgn false (Lm.val k) = (Lm.val k : Int) := rfl; rw [e1, e2]; unfold cmpZ; rw [if_pos (by omega)])
      go_wp2
      go_ret
      rw [fin.out]
      exact ⟨rfl, hb0⟩
  | false =>
    cases g' with
    | true =>
      have hp := val_pos_of_neg hm' hsk
      have fin := Lib.hid (show cmpZ (sgn false (Lm.val l)) (sgn true (Lm.val k)) = 1 by have e1 : sgn false (Lm.val l) = (Lm.val l : Int) := rfl; have e2 : sgn true (Lm.val k) = -(Lm.val k : Int) := rfl; rw [e1, e2]; unfold cmpZ; rw [if_neg (by omega), if_pos (by omega)])
      go_wp2
      go_ret
      rw [fin.out]
      exact ⟨rfl, hb0⟩
    | false =>
      have fin := Lib.hid (show Lm.cmpN (Lm.val l) (Lm.val k) = cmpZ (sgn false (Lm.val l)) (sgn false (Lm.val k)) by simp [Lm.cmpN, cmpZ, sgn])
      go_wp2_with fail
      refine (compareLimbs_any w2 A B n c m d l k hAA.1 hAA.2 hBB.1 hBB.2 (mayB_canon hm) (mayB_canon hm')).mono ?_
      rintro e w' ⟨rfl, q, rfl⟩
      go_wp2
      go_ret
      rw [← fin.out]
      exact ⟨rfl, hb0.drewN' q⟩

end Go.Proofs.Ytgencmjdejgkoaa
