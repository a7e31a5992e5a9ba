/-
  CONTRACT OF THE REFERENCE's Of (floats).
-/
import Derived.Test.YtompimbeaeinbaaFltAw
namespace Go.Proofs.Ytompimbeaeinbaa
open Go.RowKit

/-- V is u * 2^up and something, which 'rest' tells. -/
def St (V u up : Nat) (rest : Bool) : Prop := ∃ r, V = u * 2 ^ up + r ∧ r < 2 ^ up ∧ rest = decide (r ≠ 0) ∧ (up = 0 ∨ 4611686018427387904 ≤ u) ∧ u < 9223372036854775808

theorem St.zero : St 0 0 0 false := ⟨0, rfl, by decide, rfl, Or.inl rfl, by decide⟩
theorem St.low {V u up : Nat} {rest : Bool} (h : St V u up rest) (hu : u < 4611686018427387904) (b : Nat) (hb : b < 2) : St (2 * V + b) (u * 2 + b) up rest := by
  obtain ⟨r, h1, h2, h3, h4, h5⟩ := h
  have hup : up = 0 := by omega
  subst hup
  have hr : r = 0 := by simpa using h2
  subst hr
  refine ⟨0, ?_, h2, h3, Or.inl rfl, by omega⟩
  rw [h1, Nat.pow_zero]; omega
theorem St.high {V u up : Nat} {rest : Bool} (h : St V u up rest) (hu : 4611686018427387904 ≤ u) (b : Nat) (hb : b < 2) : St (2 * V + b) u (up + 1) (rest || decide (b = 1)) := by
  obtain ⟨r, h1, h2, h3, h4, h5⟩ := h
  refine ⟨2 * r + b, ?_, ?_, ?_, Or.inr hu, h5⟩
  · rw [h1, Nat.pow_succ, Nat.mul_add, ← Nat.mul_assoc, Nat.mul_comm 2, Nat.mul_assoc u, Nat.mul_comm 2]; omega
  · rw [Nat.pow_succ]; omega
  · rw [h3, ← Bool.decide_or, decide_eq_decide]; omega
theorem bit_step (V x t : Nat) : V * 2 ^ (32 - t) + x / 2 ^ t = V * 2 ^ (32 - t) + (2 * (x / 2 ^ (t + 1)) + x / 2 ^ t % 2) := by
  have : x / 2 ^ (t + 1) = x / 2 ^ t / 2 := by rw [Nat.pow_succ, Nat.div_div_eq_div_mul]
  rw [this]; omega

theorem band_bit {X t : Nat} (h : X < 4294967296) : bits .and .u64 ((X : Int) / 2 ^ t) 1 = ((X / 2 ^ t % 2 : Nat) : Int) := by
  have e : ((X : Int) / 2 ^ t) = ((X / 2 ^ t : Nat) : Int) := by push_cast; rfl
  have hle : X / 2 ^ t ≤ X := Nat.div_le_self ..
  rw [e]
  generalize X / 2 ^ t = y at *
  rw [u64_and _ _ (by omega) (by omega) (by decide) (by decide), Int.toNat_natCast, show (1 : Int).toNat = 1 from rfl]
  congr 1
  exact Nat.and_one_is_mod _
theorem val_step (V X t : Nat) (ht : t < 32) : V * 2 ^ (32 - t) + X / 2 ^ t = 2 * (V * 2 ^ (32 - (t + 1)) + X / 2 ^ (t + 1)) + X / 2 ^ t % 2 := by
  have e1 : 2 ^ (32 - t) = 2 * 2 ^ (32 - (t + 1)) := by rw [← Nat.pow_succ']; congr 1; omega
  have e2 : X / 2 ^ (t + 1) = X / 2 ^ t / 2 := by rw [Nat.pow_succ, Nat.div_div_eq_div_mul]
  rw [e1, e2, Nat.mul_left_comm]
  omega
/-- What the bits come to at last. -/
theorem St.fin {V u up : Nat} {rest : Bool} (h : St V u up rest) (hup : up ≤ 256) :
    (rest = false ∧ u = 0 ∧ V = 0 ∧ up = 0) ∨ (∃ u', u' ≠ 0 ∧ u' < 2 ^ 64 ∧ Fl.ofN V = Fl.ofN u' + up * Fl.B ∧ (rest = false ∧ u' = u ∨ rest = true ∧ u' = u / 2 * 2 + 1)) := by
  obtain ⟨r, h1, h2, h3, h4, h5⟩ := h
  by_cases h0 : u = 0
  · left
    have hu : up = 0 := by omega
    subst hu h0
    have hr : r = 0 := by simpa using h2
    subst hr
    refine ⟨by rw [h3]; rfl, rfl, by rw [h1, Nat.zero_mul], rfl⟩
  · right
    have hl : u.log2 < 63 := (Nat.log2_lt h0).2 (by omega)
    by_cases hr : r = 0
    · refine ⟨u, h0, by omega, ?_, Or.inl ⟨by rw [h3, hr]; rfl, rfl⟩⟩
      rw [h1, hr, Nat.add_zero, Fl.ofN_mul h0 (by omega)]
    · have hu : 4611686018427387904 ≤ u := by
        rcases h4 with h4 | h4
        · subst h4; simp at h2; omega
        · exact h4
      have hlog : u.log2 = 62 := Fl.log2_eq (by omega) (by omega)
      have hlog' : (u / 2 * 2 + 1).log2 = 62 := Fl.log2_eq (by omega) (by omega)
      refine ⟨u / 2 * 2 + 1, by omega, by omega, ?_, Or.inr ⟨by rw [h3]; exact decide_eq_true hr, rfl⟩⟩
      rw [h1, Fl.sticky (by omega) h2 (by omega) (by omega), Fl.ofN_mul (by omega) (by omega)]

set_option maxHeartbeats 1000000 in
theorem Ldexp_zero (w : World) (e : Int) :
    Calls Try.prog 61 #[.float .f64 0, .int .i64 e] w fun r w' => r = .returned (.float .f64 0) ∧ w = w' := by
  have o0 := flt_eq zero_nan zero_nan
  rw [decide_eq_true rfl] at o0
  have inner : ∀ w, Calls Try.prog 67 #[.float .f64 0, .int .i64 e] w fun r w' => r = .returned (.float .f64 0) ∧ w = w' := by
    intro w
    go_enter Try.func67, Try.ntmps67
    go_wp2
    go_ret
    exact ⟨rfl, rfl⟩
  go_enter Try.func61, Try.ntmps61
  go_wp2_with (go_at_call 67; refine (inner _).mono ?_; rintro r w' ⟨rfl, rfl⟩)
  go_ret
  exact ⟨rfl, rfl⟩
theorem clean_word {g : Bool} {N : Nat} : cleanN (Ieee.double.word g (Fl.ofN N)) = Ieee.double.word g (Fl.ofN N) := by
  unfold cleanN
  rw [if_neg]
  unfold Fl.nanB
  rw [Fl.word_rg (Fl.ofN_lt N), decide_eq_true_iff]
  have := Fl.ofN_le N
  omega
theorem word_lt2 (g : Bool) (N : Nat) : Ieee.double.word g (Fl.ofN N) < 2 * Fl.S := by
  have := Fl.ofN_lt N
  unfold Ieee.Format.word; rw [Fl.sw_eq]; split <;> omega

end Go.Proofs.Ytompimbeaeinbaa
