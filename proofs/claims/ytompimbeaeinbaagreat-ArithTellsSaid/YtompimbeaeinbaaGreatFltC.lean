/-
  WHOLE NUMBERS AS FLOATS (no Go here): exact products, quotients, differences, floors; one rounding with a mark.
-/
import Derived.Test.YtompimbeaeinbaaGreatJ5
namespace Go.Proofs.YtompimbeaeinbaaGreat
namespace Fl
open Ieee

theorem exK : ∃ k : Nat, k = 1074 := ⟨1074, rfl⟩
/-- 1074, which the kernel cannot reckon with. -/
noncomputable def K : Nat := Classical.choose exK
theorem K_eq : K = 1074 := Classical.choose_spec exK
theorem exT : ∃ k : Nat, k = 1023 := ⟨1023, rfl⟩
noncomputable def T : Nat := Classical.choose exT
theorem T_eq : T = 1023 := Classical.choose_spec exT
noncomputable def U : Nat := 2 ^ K
theorem U_def : U = 2 ^ K := rfl
theorem U_pos : 0 < U := Nat.two_pow_pos K
/-- The rung of the float nearest to N. -/
noncomputable def ofN (N : Nat) : Nat := R (N * U) 0

theorem ofN_zero : ofN 0 = 0 := by unfold ofN; rw [Nat.zero_mul, R_zero]
theorem ofN_le (N : Nat) : ofN N ≤ INF := R_le _ _
theorem ofN_lt (N : Nat) : ofN N < S := R_lt _ _

/-- N is m * 2^k with m of 53 bits. -/
def Rep (N : Nat) : Prop := ∃ m k, N = m * 2 ^ k ∧ m ≤ 2 * B ∧ N < 2 ^ T
theorem Rep.lt {N : Nat} (h : Rep N) : N < 2 ^ T := by obtain ⟨_, _, _, _, h⟩ := h; exact h
theorem rep_small {N : Nat} (h : N ≤ 2 * B) : Rep N := ⟨N, 0, by simp, h, Nat.lt_of_le_of_lt h (by rw [← two53]; exact Nat.pow_lt_pow_right (by omega) (by have := T_eq; omega))⟩

theorem mt_at (d M : Nat) (h1 : B ≤ M) (h2 : M < 2 * B) : mt (d * B + M) = M ∧ pl (d * B + M) = d := by
  have hB := B_pos
  have e : d * B + M = B * (d + 1) + (M - B) := by rw [Nat.mul_add, Nat.mul_one, Nat.mul_comm]; omega
  have h3 : ¬ d * B + M < B := by omega
  unfold mt pl
  rw [if_neg h3, if_neg h3, e, Nat.mul_add_mod, Nat.mul_add_div hB, Nat.mod_eq_of_lt (by omega), Nat.div_eq_of_lt (show M - B < B by omega)]
  omega

theorem log2_pos {m : Nat} (h0 : m ≠ 0) : 2 ^ m.log2 ≤ m ∧ m < 2 ^ (m.log2 + 1) := ⟨Nat.log2_self_le h0, Nat.lt_log2_self⟩

theorem U_log2 (N : Nat) (h : N ≠ 0) : (N * U).log2 = N.log2 + 1074 := by rw [U_def, log2_mul N K h, K_eq]

/-- What is exact is found. -/
theorem rep_val {N : Nat} (h : Rep N) : val (ofN N) = N * U ∧ ofN N < INF := by
  obtain ⟨m, k, rfl, hm, hlt⟩ := h
  have hB := B_pos
  have hK := K_eq
  have hT := T_eq
  by_cases h0 : m = 0
  · subst h0; rw [Nat.zero_mul, ofN_zero, Nat.zero_mul, val_zero]; exact ⟨rfl, by decide⟩
  -- m below 2^53
  have norm : ∃ m' k', m * 2 ^ k = m' * 2 ^ k' ∧ m' < 2 * B ∧ m' ≠ 0 := by
    by_cases h1 : m < 2 * B
    · exact ⟨m, k, rfl, h1, h0⟩
    · refine ⟨B, k + 1, ?_, by omega, by omega⟩
      rw [show m = 2 * B by omega, Nat.pow_succ, Nat.mul_comm 2 B, Nat.mul_assoc, Nat.mul_comm 2]
  obtain ⟨m', k', e, hm', h0'⟩ := norm
  rw [e] at hlt ⊢
  clear e hm h0
  obtain ⟨l1, l2⟩ := log2_pos h0'
  have hl : m'.log2 ≤ 52 := by
    have := (Nat.log2_lt (k := 53) h0').2 (by rw [two53]; exact hm')
    omega
  have hne : m' * 2 ^ k' ≠ 0 := Nat.mul_ne_zero h0' (Nat.ne_of_gt (Nat.two_pow_pos _))
  have hL : m'.log2 + k' < 1023 := by
    have := (Nat.log2_lt hne).2 hlt
    rw [log2_mul _ _ h0'] at this
    omega
  have hM1 : B ≤ m' * 2 ^ (52 - m'.log2) := by
    rw [B_eq, show 52 = m'.log2 + (52 - m'.log2) by omega, Nat.pow_add, show m'.log2 + (52 - m'.log2) - m'.log2 = 52 - m'.log2 by omega]
    exact Nat.mul_le_mul_right _ l1
  have hM2 : m' * 2 ^ (52 - m'.log2) < 2 * B := by
    rw [← two53, show 53 = m'.log2 + 1 + (52 - m'.log2) by omega, Nat.pow_add, show 52 - m'.log2 = 52 - m'.log2 from rfl]
    have : m'.log2 + 1 + (52 - m'.log2) - (m'.log2 + 1) = 52 - m'.log2 := by omega
    exact Nat.mul_lt_mul_of_pos_right l2 (Nat.two_pow_pos _)
  have hr : ofN (m' * 2 ^ k') = (m'.log2 + k' + 1022) * B + m' * 2 ^ (52 - m'.log2) := by
    unfold ofN R
    rw [U_log2 _ hne, log2_mul _ _ h0', show max (m'.log2 + k' + 1074 - 52) 0 = m'.log2 + k' + 1022 by omega, Nat.sub_zero]
    have e2 : m' * 2 ^ k' * U = m' * 2 ^ (52 - m'.log2) * 2 ^ (m'.log2 + k' + 1022) := by
      rw [U_def, Nat.mul_assoc, Nat.mul_assoc, ← Nat.pow_add, ← Nat.pow_add]
      congr 2; omega
    rw [e2, rne_mul]
    apply Nat.min_eq_left
    have : INF = 2047 * B := by decide
    rw [this]
    have : (m'.log2 + k' + 1022) * B ≤ 2044 * B := Nat.mul_le_mul_right _ (by omega)
    omega
  obtain ⟨a1, a2⟩ := mt_at (m'.log2 + k' + 1022) _ hM1 hM2
  refine ⟨?_, ?_⟩
  · unfold val
    rw [hr, a1, a2, U_def, Nat.mul_assoc, Nat.mul_assoc, ← Nat.pow_add, ← Nat.pow_add]
    congr 2; omega
  · rw [hr]
    have : INF = 2047 * B := by decide
    rw [this]
    have : (m'.log2 + k' + 1022) * B ≤ 2044 * B := Nat.mul_le_mul_right _ (by omega)
    omega

theorem ofN_pos {N : Nat} (h : 0 < N) : 1023 * B ≤ ofN N := by
  unfold ofN R
  have hne : N ≠ 0 := by omega
  rw [U_log2 _ hne, show max (N.log2 + 1074 - 52) 0 = N.log2 + 1022 by omega, Nat.sub_zero]
  have h1 : B ≤ rne (N * U) (N.log2 + 1022) := by
    unfold rne
    refine Nat.le_trans ?_ (Nat.le_add_right _ _)
    rw [Nat.le_div_iff_mul_le (Nat.two_pow_pos _), B_eq, ← Nat.pow_add, U_def, show 52 + (N.log2 + 1022) = N.log2 + K by have := K_eq; omega, Nat.pow_add]
    exact Nat.mul_le_mul_right _ (log2_pos hne).1
  have : INF = 2047 * B := by decide
  have h2 : (N.log2 + 1022) * B = N.log2 * B + 1022 * B := Nat.add_mul ..
  have h3 : B = 4503599627370496 := rfl
  omega
theorem ofN_eq_zero {N : Nat} : ofN N = 0 ↔ N = 0 := by
  constructor
  · intro h
    rcases Nat.eq_zero_or_pos N with h0 | h0
    · exact h0
    · have := ofN_pos h0
      have h3 : B = 4503599627370496 := rfl
      omega
  · rintro rfl; exact ofN_zero

/-- A power of two more is so many binades more. -/
theorem ofN_mul {N k : Nat} (h0 : N ≠ 0) (h : N.log2 + k < 1000) : ofN (N * 2 ^ k) = ofN N + k * B := by
  have hne : N * 2 ^ k ≠ 0 := Nat.mul_ne_zero h0 (Nat.ne_of_gt (Nat.two_pow_pos _))
  have hub : ∀ M, M ≠ 0 → rne (M * U) (M.log2 + 1022) ≤ 2 * B := by
    intro M hM
    have h1 : M * U / 2 ^ (M.log2 + 1022) < 2 * B := by
      rw [Nat.div_lt_iff_lt_mul (Nat.two_pow_pos _), ← two53, ← Nat.pow_add, U_def, show 53 + (M.log2 + 1022) = M.log2 + 1 + K by have := K_eq; omega, Nat.pow_add]
      exact Nat.mul_lt_mul_of_pos_right (log2_pos hM).2 (Nat.two_pow_pos _)
    unfold rne
    split <;> omega
  have e : INF = 2047 * B := by decide
  have h3 : B = 4503599627370496 := rfl
  have hu1 := hub _ hne
  have hu2 := hub _ h0
  unfold ofN R
  rw [U_log2 _ hne, U_log2 _ h0]
  rw [log2_mul _ _ h0] at hu1 ⊢
  rw [show max (N.log2 + k + 1074 - 52) 0 = N.log2 + 1022 + k by omega, show max (N.log2 + 1074 - 52) 0 = N.log2 + 1022 by omega, Nat.sub_zero, Nat.sub_zero]
  rw [show N.log2 + k + 1022 = N.log2 + 1022 + k by omega] at hu1
  rw [show N * 2 ^ k * U = N * U * 2 ^ k by rw [Nat.mul_assoc, Nat.mul_comm (2 ^ k), ← Nat.mul_assoc], rne_shift] at hu1 ⊢
  have h4 : (N.log2 + 1022 + k) * B = (N.log2 + 1022) * B + k * B := Nat.add_mul ..
  have h5 : (N.log2 + 1022 + k) * B ≤ 2022 * B := Nat.mul_le_mul_right _ (by omega)
  rw [h4] at h5 ⊢
  omega

/-- One rounding: what lies below leaves a mark in the last bit. -/
theorem sticky {q k r : Nat} (hq : 54 ≤ q.log2) (hr : r < 2 ^ k) (h0 : 0 < r) (hlt : q.log2 + k < 900) : ofN (q * 2 ^ k + r) = ofN ((q / 2 * 2 + 1) * 2 ^ k) := by
  have hq0 : q ≠ 0 := by intro h; subst h; simp at hq
  have hk := Nat.two_pow_pos k
  -- both have the same highest bit
  have hlog : ∀ M, q / 2 * 2 * 2 ^ k ≤ M → M < (q / 2 * 2 + 2) * 2 ^ k → M.log2 = q.log2 + k := by
    intro M h1 h2
    obtain ⟨l1, l2⟩ := log2_pos hq0
    have hM : M ≠ 0 := by
      intro h
      subst h
      have : 0 < q / 2 * 2 * 2 ^ k := Nat.mul_pos (by
        have : 2 ^ 1 ≤ 2 ^ q.log2 := Nat.pow_le_pow_right (by omega) (by omega)
        omega) hk
      omega
    have e1 : 2 ^ q.log2 ≤ q / 2 * 2 := by
      have : 2 ^ q.log2 = 2 ^ (q.log2 - 1) * 2 := by rw [← Nat.pow_succ]; congr 1; omega
      omega
    have e2 : q / 2 * 2 + 2 ≤ 2 ^ (q.log2 + 1) := by
      have : 2 ^ (q.log2 + 1) = 2 ^ q.log2 * 2 := Nat.pow_succ ..
      omega
    apply Nat.le_antisymm
    · have : M < 2 ^ (q.log2 + k + 1) := by
        rw [show q.log2 + k + 1 = q.log2 + 1 + k by omega, Nat.pow_add]
        exact Nat.lt_of_lt_of_le h2 (Nat.mul_le_mul_right _ e2)
      have := (Nat.log2_lt hM).2 this
      omega
    · rw [Nat.le_log2 hM, Nat.pow_add]
      exact Nat.le_trans (Nat.mul_le_mul_right _ e1) h1
  have b1 : q / 2 * 2 * 2 ^ k ≤ q * 2 ^ k := Nat.mul_le_mul_right _ (by omega)
  have b2 : (q + 1) * 2 ^ k ≤ (q / 2 * 2 + 2) * 2 ^ k := Nat.mul_le_mul_right _ (by omega)
  have b3 : (q + 1) * 2 ^ k = q * 2 ^ k + 2 ^ k := by rw [Nat.add_mul, Nat.one_mul]
  have b4 : (q / 2 * 2 + 1) * 2 ^ k = q / 2 * 2 * 2 ^ k + 2 ^ k := by rw [Nat.add_mul, Nat.one_mul]
  have b5 : (q / 2 * 2 + 2) * 2 ^ k = q / 2 * 2 * 2 ^ k + 2 * 2 ^ k := by rw [Nat.add_mul]
  have g1 := hlog (q * 2 ^ k + r) (by omega) (by omega)
  have g2 := hlog ((q / 2 * 2 + 1) * 2 ^ k) (by omega) (by omega)
  have hne1 : q * 2 ^ k + r ≠ 0 := by omega
  have hne2 : (q / 2 * 2 + 1) * 2 ^ k ≠ 0 := by omega
  unfold ofN R
  rw [U_log2 _ hne1, U_log2 _ hne2, g1, g2]
  -- rounding both at the same place, well above
  have hD : max (q.log2 + k + 1074 - 52) 0 = (q.log2 - 54 + 2 + k) + K := by have := K_eq; omega
  rw [hD, U_def, rne_shift, rne_shift]
  congr 2
  generalize q.log2 - 54 = d''
  rw [rne_shift]
  clear hD g1 g2 hne1 hne2 b1 b2 b3 b4 b5 hlog hlt hq
  have hG : 2 ^ (d'' + 2) = 4 * 2 ^ d'' := by rw [Nat.pow_add, Nat.mul_comm]
  unfold rne
  rw [show d'' + 2 + k = (d'' + 2) + k from rfl, Nat.pow_add 2 (d'' + 2) k, hG]
  have hg := Nat.two_pow_pos d''
  generalize 2 ^ d'' = g at *
  generalize 2 ^ k = t at *
  have hGp : 0 < 4 * g := by omega
  have hda := Nat.div_add_mod q (4 * g)
  have hma := Nat.mod_lt q hGp
  generalize hc : q / (4 * g) = c at *
  generalize ha : q % (4 * g) = a at *
  -- the left side
  have e1 : (q * t + r) / (4 * g * t) = c := by
    have : q * t + r = 4 * g * t * c + (a * t + r) := by
      rw [← hda, Nat.add_mul, Nat.mul_right_comm, Nat.add_assoc]
    rw [this, Nat.mul_add_div (Nat.mul_pos hGp hk), Nat.div_eq_of_lt, Nat.add_zero]
    have : (a + 1) * t ≤ 4 * g * t := Nat.mul_le_mul_right _ (by omega)
    rw [Nat.add_mul, Nat.one_mul] at this
    omega
  have e2 : (q * t + r) % (4 * g * t) = a * t + r := by
    have : q * t + r = 4 * g * t * c + (a * t + r) := by
      rw [← hda, Nat.add_mul, Nat.mul_right_comm, Nat.add_assoc]
    rw [this, Nat.mul_add_mod, Nat.mod_eq_of_lt]
    have : (a + 1) * t ≤ 4 * g * t := Nat.mul_le_mul_right _ (by omega)
    rw [Nat.add_mul, Nat.one_mul] at this
    omega
  have e0 : q / 2 * 2 + 1 = 4 * g * c + (a / 2 * 2 + 1) := by
    have : 4 * g * c = 2 * (2 * g * c) := by rw [← Nat.mul_assoc, ← Nat.mul_assoc]
    omega
  have e3 : (q / 2 * 2 + 1) / (4 * g) = c := by
    rw [e0, Nat.mul_add_div hGp, Nat.div_eq_of_lt (by omega), Nat.add_zero]
  have e4 : (q / 2 * 2 + 1) % (4 * g) = a / 2 * 2 + 1 := by
    rw [e0, Nat.mul_add_mod, Nat.mod_eq_of_lt (by omega)]
  rw [e1, e2, e3, e4]
  have h2 : 4 * g * t = 2 * (2 * g * t) := by rw [← Nat.mul_assoc, ← Nat.mul_assoc]
  rcases Nat.lt_or_ge a (2 * g) with h | h
  · have : (a + 1) * t ≤ 2 * g * t := Nat.mul_le_mul_right _ (by omega)
    rw [Nat.add_mul, Nat.one_mul] at this
    rw [if_neg (by omega), if_neg (by omega)]
  · have : 2 * g * t ≤ a * t := Nat.mul_le_mul_right _ (by omega)
    rw [if_pos (by omega), if_pos (by omega)]

end Fl
end Go.Proofs.YtompimbeaeinbaaGreat
