/-
  CONTRACT OF THE REFERENCE's whole.
-/
import Derived.Test.YtompimbeaeinbaaGreatFltQ
namespace Go.Proofs.YtompimbeaeinbaaGreat
open Go.RowKit

namespace Fl
/-- The whole part of a float's magnitude; is something left? -/
noncomputable def wh (r : Nat) : Nat := val r / U
noncomputable def lf (r : Nat) : Bool := decide (val r % U ≠ 0)
set_option maxRecDepth 100000 in
theorem wh_at {r s : Nat} (h1 : s = 0 ∨ pl r + s ≤ 1074) (h2 : 1074 ≤ pl r + s ∨ mt r / 2 ^ s = 0) : wh r = mt r / 2 ^ s * 2 ^ (pl r + s - 1074) ∧ lf r = decide (mt r % 2 ^ s ≠ 0) := by
  have hK := K_eq
  have hU := U_pos
  unfold wh lf val
  generalize mt r = M at *
  generalize pl r = p at *
  by_cases hp : 1074 ≤ p + s
  · by_cases hs : s = 0
    · subst hs
      have hp' : 1074 ≤ p := by omega
      have e : M * 2 ^ p = M * 2 ^ (p - 1074) * U := by rw [U_def, hK, split_pow _ _ _ hp']
      rw [e, Nat.mul_div_cancel _ hU, Nat.mul_mod_left, Nat.pow_zero, Nat.div_one, Nat.mod_one, Nat.add_zero]
      exact ⟨rfl, rfl⟩
    · have hps : p + s = 1074 := by omega
      have e : U = 2 ^ s * 2 ^ p := by rw [U_def, ← Nat.pow_add]; congr 1; omega
      have hq := Nat.two_pow_pos p
      rw [e, Nat.mul_div_mul_right _ _ hq, Nat.mul_mod_mul_right, hps, Nat.sub_self, Nat.pow_zero, Nat.mul_one]
      refine ⟨rfl, ?_⟩
      rw [decide_eq_decide]
      constructor
      · intro h h0; rw [h0, Nat.zero_mul] at h; exact h rfl
      · intro h h0
        rcases Nat.mul_eq_zero.1 h0 with h0 | h0
        · exact h h0
        · omega
  · have hM : M / 2 ^ s = 0 := by
      rcases h2 with h2 | h2
      · exact absurd h2 hp
      · exact h2
    have hlt : M < 2 ^ s := by
      rcases Nat.div_eq_zero_iff.1 hM with h | h
      · have := Nat.two_pow_pos s; omega
      · exact h
    have hv : M * 2 ^ p < U := by
      have h3 : M * 2 ^ p < 2 ^ s * 2 ^ p := Nat.mul_lt_mul_of_pos_right hlt (Nat.two_pow_pos p)
      rw [← Nat.pow_add] at h3
      have h4 : 2 ^ (s + p) ≤ U := by rw [U_def]; exact Nat.pow_le_pow_right (by omega) (by omega)
      omega
    rw [Nat.div_eq_of_lt hv, Nat.mod_eq_of_lt hv, hM, Nat.zero_mul, Nat.mod_eq_of_lt hlt]
    refine ⟨rfl, ?_⟩
    rw [decide_eq_decide]
    have hq := Nat.two_pow_pos p
    constructor
    · intro h h0; rw [h0, Nat.zero_mul] at h; exact h rfl
    · intro h h0
      rcases Nat.mul_eq_zero.1 h0 with h0 | h0
      · exact h h0
      · omega
set_option maxRecDepth 100000 in
theorem half_step (M s : Nat) : M / 2 ^ (s + 1) = M / 2 ^ s / 2 ∧ decide (M % 2 ^ (s + 1) ≠ 0) = (decide (M % 2 ^ s ≠ 0) || decide (M / 2 ^ s % 2 = 1)) := by
  refine ⟨by rw [Nat.pow_succ, Nat.div_div_eq_div_mul], ?_⟩
  rw [← Bool.decide_or, decide_eq_decide, Nat.pow_succ, Nat.mod_mul]
  have hp := Nat.two_pow_pos s
  rcases Nat.mod_two_eq_zero_or_one (M / 2 ^ s) with h | h <;> rw [h] <;> omega
end Fl

set_option maxRecDepth 100000 in
theorem bE {b : Int} (h : U64 b) : bits .and .u64 (b / 4503599627370496) 2047 = ((Fl.rg b.toNat / 4503599627370496 : Nat) : Int) := by
  have h1 := h.1
  have h2 := h.2
  rw [u64_and _ _ (by omega) (by omega) (by decide) (by decide), show (2047 : Int).toNat = 2 ^ 11 - 1 from rfl, Nat.and_two_pow_sub_one_eq_mod]
  congr 1
  have e : Fl.S = 9223372036854775808 := rfl
  unfold Fl.rg
  rw [e]
  have : (b / 4503599627370496).toNat = b.toNat / 4503599627370496 := by omega
  rw [this]
  omega
set_option maxRecDepth 100000 in
theorem bM {b : Int} (h : U64 b) : bits .and .u64 b 4503599627370495 = ((Fl.rg b.toNat % 4503599627370496 : Nat) : Int) := by
  rw [u64_and _ _ h.1 h.2 (by decide) (by decide), show (4503599627370495 : Int).toNat = 2 ^ 52 - 1 from rfl, Nat.and_two_pow_sub_one_eq_mod]
  congr 1
  have e : Fl.S = 9223372036854775808 := rfl
  unfold Fl.rg
  rw [e]
  omega
set_option maxRecDepth 100000 in
theorem bO {m : Nat} (h : m < 4503599627370496) : bits .or .u64 (m : Int) 4503599627370496 = ((4503599627370496 + m : Nat) : Int) := by
  have := or_join (x := m) (y := 1) 52 h (by omega)
  rw [show ((1 * 2 ^ 52 : Nat) : Int) = 4503599627370496 from rfl] at this
  rw [this]; omega
set_option maxRecDepth 100000 in
theorem band1 {m : Nat} (h : m < 18446744073709551616) : bits .and .u64 (m : Int) 1 = ((m % 2 : Nat) : Int) := by
  rw [u64_and _ _ (by omega) (by omega) (by decide) (by decide), Int.toNat_natCast, show (1 : Int).toNat = 1 from rfl]
  congr 1
  exact Nat.and_one_is_mod _

set_option maxRecDepth 100000 in
/-- A row of one's own, written. -/
theorem Own.at {w : World} {base n c : Nat} {A : Option Addr} {l : List Nat} (h : Own w base A n c l) (hn : 0 < n) :
    ∃ g, A = some ⟨g, 0, none⟩ ∧ base ≤ g ∧ g < w.heap.size ∧ (∀ i, i < n → w.cell? ⟨g, i, none⟩ = some (.int .u32 (Lm.lg l i : Nat))) ∧ (∀ i, w.frozen? ⟨g, i, none⟩ = false) ∧
      ∀ i x : Nat, i < n → x < 4294967296 → Own (w.setCell ⟨g, i, none⟩ (.int .u32 (x : Int))) base A n c (l.set i x) := by
  rcases h.2.2.2 with ⟨_, h0⟩ | ⟨g, cap, cur, hv, hb, hg, h1, h2, h3, h4⟩
  · omega
  · injection hv with hA _ hc
    subst hA hc
    have hR : Rw w g c cur := ⟨hg, by rw [h3]; omega⟩
    refine ⟨g, rfl, hb, hR.lt, fun i hi => ?_, fun i => hR.fz i, fun i x hi hx => ?_⟩
    · exact World.ownsRow.cellAt h.2.2 i (by omega) |>.trans (limbVs_get (by rw [h.2.1]; exact hi))
    · have hS := hR.set i (.int .u32 (x : Int))
      refine ⟨Lm.small_set h.1 i hx, by rw [List.length_set, h.2.1], by rw [limbVs_len, List.length_set, h.2.1]; omega, .inr ⟨g, c, _, rfl, hb, hS.1, h1, h2, by rw [Array.size_setIfInBounds, h3], ?_⟩⟩
      rw [Array.toList_setIfInBounds, List.take_set, h4]
      simp [limbVs, List.map_set]
end Go.Proofs.YtompimbeaeinbaaGreat
