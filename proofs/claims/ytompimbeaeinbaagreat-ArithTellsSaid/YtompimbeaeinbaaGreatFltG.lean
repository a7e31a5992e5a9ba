/-
  CONTRACT OF real.CmpNum.
-/
import Derived.Test.YtompimbeaeinbaaGreatFltF
import Derived.Deep.RegionHeld3
namespace Go.Proofs.YtompimbeaeinbaaGreat
open Go.RowKit

namespace Fl
def C256 : Nat := 5760103923406864384
def D256 : Nat := 14983475960261640192
set_option maxRecDepth 100000 in
theorem c256_si : si C256 = ((1279 * B : Nat) : Int) := by decide
set_option maxRecDepth 100000 in
theorem d256_si : si D256 = -((1279 * B : Nat) : Int) := by decide
set_option maxRecDepth 100000 in
theorem c256_nan : nanB C256 = false := by decide
set_option maxRecDepth 100000 in
theorem d256_nan : nanB D256 = false := by decide
set_option maxRecDepth 100000 in
theorem val_top : val (1279 * B) = 2 ^ 256 * U := val_binade 1279 256 (by omega) (by rw [K_eq])
set_option maxRecDepth 100000 in
theorem flr_ge {a : Nat} (h : ((1279 * B : Nat) : Int) ≤ si a) : ((2 ^ 256 : Nat) : Int) ≤ flr a := by
  have hU := U_pos
  have hUI : (0 : Int) < (U : Int) := by omega
  have h1 : ((2 ^ 256 * U : Nat) : Int) ≤ sv a := by
    rw [← val_top]
    unfold si sgnd at h
    unfold sv sgnd
    cases hn : ng a
    · rw [hn] at h; simp only [Bool.false_eq_true, if_false] at h ⊢
      have := val_le (r := 1279 * B) (s := rg a) (by omega)
      omega
    · rw [hn] at h; simp only [if_true] at h
      have : B = 4503599627370496 := rfl
      omega
  have := Int.ediv_le_ediv hUI h1
  rw [Int.natCast_mul, Int.mul_ediv_cancel _ (by omega)] at this
  exact this
set_option maxRecDepth 100000 in
theorem flr_le {a : Nat} (h : si a ≤ -((1279 * B : Nat) : Int)) : flr a ≤ -((2 ^ 256 : Nat) : Int) := by
  have hU := U_pos
  have hUI : (0 : Int) < (U : Int) := by omega
  have h1 : sv a ≤ -((2 ^ 256 * U : Nat) : Int) := by
    rw [← val_top]
    unfold si sgnd at h
    unfold sv sgnd
    cases hn : ng a
    · rw [hn] at h; simp only [Bool.false_eq_true, if_false] at h ⊢
      have : B = 4503599627370496 := rfl
      omega
    · rw [hn] at h; simp only [if_true] at h ⊢
      have := val_le (r := 1279 * B) (s := rg a) (by omega)
      omega
  have := Int.ediv_le_ediv hUI h1
  rw [Int.natCast_mul, ← Int.neg_mul, Int.mul_ediv_cancel _ (by omega)] at this
  exact this
set_option maxRecDepth 100000 in
theorem rg_in {a : Nat} (h1 : ¬ ((1279 * B : Nat) : Int) ≤ si a) (h2 : ¬ si a ≤ -((1279 * B : Nat) : Int)) : rg a < 1279 * B := by
  unfold si sgnd at h1 h2
  cases hn : ng a
  · rw [hn] at h1; simp only [Bool.false_eq_true, if_false] at h1; omega
  · rw [hn] at h2; simp only [if_true] at h2; omega
set_option maxRecDepth 100000 in
theorem flr_in {a : Nat} (h : rg a < 1279 * B) : (flr a).natAbs < 2 ^ 256 := by
  have hK := K_eq
  have hU := U_pos
  rcases Nat.le_total 1074 (pl (rg a)) with hp | hp
  · have e1 : val (rg a) = mt (rg a) * 2 ^ (pl (rg a) - 1074) * U := by unfold val; rw [U_def, hK, split_pow _ _ _ hp]
    have e2 : (flr a).natAbs = mt (rg a) * 2 ^ (pl (rg a) - 1074) := by
      unfold flr sv
      rw [e1, sgnd_mul _ _ U, Int.mul_ediv_cancel _ (by omega), natAbs_sgnd]
    have h3 := val_lt h
    rw [val_top, e1] at h3
    rw [e2]
    exact Nat.lt_of_mul_lt_mul_right h3
  · have h1 : val (rg a) ≤ 2 * B * U := by
      unfold val
      exact Nat.mul_le_mul (Nat.le_of_lt mt_lt) (by rw [U_def]; exact Nat.pow_le_pow_right (by omega) (by omega))
    have hUI : (0 : Int) < (U : Int) := by omega
    have ha := natAbs_sgnd (ng a) (val (rg a))
    have h4 : -((2 * B * U : Nat) : Int) ≤ sv a ∧ sv a ≤ ((2 * B * U : Nat) : Int) := by unfold sv; omega
    rw [Int.natCast_mul] at h4
    have h5 : flr a ≤ ((2 * B : Nat) : Int) := by
      have := Int.ediv_le_ediv hUI h4.2
      rwa [Int.mul_ediv_cancel _ (by omega)] at this
    have h6 : -((2 * B : Nat) : Int) ≤ flr a := by
      have := Int.ediv_le_ediv hUI h4.1
      rwa [← Int.neg_mul, Int.mul_ediv_cancel _ (by omega)] at this
    have h7 : 2 * B < 2 ^ 256 := by decide
    omega
set_option maxRecDepth 100000 in
/-- The sign of a floor that is nothing's, or below. -/
theorem flr_sgn {a : Nat} : sgn (ng a) (flr a).natAbs = flr a := by
  have hU := U_pos
  have hUI : (0 : Int) < (U : Int) := by omega
  unfold sgn
  cases hn : ng a
  · have : 0 ≤ flr a := Int.ediv_nonneg (by unfold sv sgnd; rw [hn]; simp only [Bool.false_eq_true, if_false]; omega) (by omega)
    simp only [Bool.false_eq_true, if_false]; omega
  · have : flr a ≤ 0 := by
      have h1 : sv a ≤ 0 := by unfold sv sgnd; rw [hn]; simp only [if_true]; omega
      have := Int.ediv_le_ediv hUI h1
      rw [Int.zero_ediv] at this
      exact this
    simp only [if_true]; omega
end Fl

set_option maxRecDepth 100000 in
theorem flt_ge {a b : Nat} (ha : Fl.nanB a = false) (hb : Fl.nanB b = false) : (FloatKind.f64.format.order a b == some .gt || FloatKind.f64.format.order a b == some .eq) = decide (Fl.si b ≤ Fl.si a) := by
  rw [flt_gt ha hb, flt_eq ha hb, ← Bool.decide_or, decide_eq_decide]; omega
set_option maxRecDepth 100000 in
theorem flt_le {a b : Nat} (ha : Fl.nanB a = false) (hb : Fl.nanB b = false) : (FloatKind.f64.format.order a b == some .lt || FloatKind.f64.format.order a b == some .eq) = decide (Fl.si a ≤ Fl.si b) := by
  rw [flt_lt ha hb, flt_eq ha hb, ← Bool.decide_or, decide_eq_decide]; omega

/-- How an integer stands to a float. -/
noncomputable def cmpNumZ (z : Int) (b : Nat) : Int := if Fl.nanB b then -1 else if Fl.flr b < z then 1 else -1
noncomputable def cmpNumR (g : Bool) (l : List Nat) (b : Int) : Int := if mayB g l then cmpNumZ (sgn g (Lm.val l)) b.toNat else 0

set_option maxRecDepth 100000 in
theorem Lm.top_pow : Lm.top = 2 ^ 256 := by decide

end Go.Proofs.YtompimbeaeinbaaGreat
