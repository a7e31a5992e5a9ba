/-
  FLOATS OF 64 BITS AS RUNGS: what a word stands for, how a number is rounded to a word (no Go here).
-/
import Derived.Laws.FloatArith
namespace Go.Proofs.Ytbpihjcghmmacaa
namespace Fl
open Ieee

def B : Nat := 4503599627370496
def S : Nat := 9223372036854775808
def INF : Nat := 9218868437227405312
def NAN : Nat := 9221120237041090561
theorem B_eq : B = 2 ^ 52 := by decide
theorem binade_eq : double.binade = B := by decide
theorem sw_eq : double.signWeight = S := by decide
theorem inf_eq : double.infRung = INF := by decide
theorem lp_eq : double.leastPlace = -1074 := by decide
theorem B_pos : 0 < B := by decide

def ng (a : Nat) : Bool := a / S % 2 == 1
def rg (a : Nat) : Nat := a % S
def mt (r : Nat) : Nat := if r < B then r else B + r % B
def pl (r : Nat) : Nat := if r < B then 0 else r / B - 1
/-- The value of a rung, in units of the least float. -/
def val (r : Nat) : Nat := mt r * 2 ^ pl r

theorem read_num {a : Nat} (h : rg a < INF) : double.read a = .number (ng a) (mt (rg a)) (-1074 + ((pl (rg a) : Nat) : Int)) := by
  unfold Format.read
  simp only [binade_eq, sw_eq, inf_eq, lp_eq]
  unfold rg at h
  by_cases hb : a % S < B
  · rw [if_pos hb]; simp [ng, rg, mt, pl, hb]
  · rw [if_neg hb, if_pos h]; simp [ng, rg, mt, pl, hb]
theorem read_inf {a : Nat} (h : rg a = INF) : double.read a = .infinity (ng a) := by
  unfold Format.read
  simp only [binade_eq, sw_eq, inf_eq]
  unfold rg at h
  rw [if_neg (by rw [h]; decide), if_neg (by rw [h]; decide), if_pos h]
  rfl
theorem read_nan {a : Nat} (h : INF < rg a) : double.read a = .nan (ng a) (rg a - INF) := by
  unfold Format.read
  simp only [binade_eq, sw_eq, inf_eq]
  unfold rg at h
  have : B < INF := by decide
  rw [if_neg (by omega), if_neg (by omega), if_neg (by omega)]
  rfl

/-- n / 2^d, to the nearest, ties to even. -/
def rne (n d : Nat) : Nat := n / 2 ^ d + (if 2 ^ d < 2 * (n % 2 ^ d) ∨ (2 ^ d = 2 * (n % 2 ^ d) ∧ n / 2 ^ d % 2 = 1) then 1 else 0)

theorem cut_even (neg : Bool) (n d : Nat) : Toward.even.cut neg n d = rne n d := by
  have key : ∀ g : Nat, n / g + (decide (g < 2 * (n % g)) || (g == 2 * (n % g) && n / g % 2 == 1)).toNat = n / g + (if g < 2 * (n % g) ∨ (g = 2 * (n % g) ∧ n / g % 2 = 1) then 1 else 0) := by
    intro g
    by_cases h1 : g < 2 * (n % g)
    · simp [h1]
    · by_cases h2 : g = 2 * (n % g) ∧ n / g % 2 = 1
      · rw [if_pos (Or.inr h2)]
        have a1 : (g == 2 * (n % g)) = true := by rw [beq_iff_eq]; exact h2.1
        have a2 : (n / g % 2 == 1) = true := by rw [beq_iff_eq]; exact h2.2
        simp [a1, a2]
      · rw [if_neg (by rintro (h | h); exact h1 h; exact h2 h)]
        have : (decide (g < 2 * (n % g)) || (g == 2 * (n % g) && n / g % 2 == 1)) = false := by
          rw [Bool.or_eq_false_iff]
          refine ⟨decide_eq_false h1, ?_⟩
          rw [Bool.and_eq_false_iff]
          by_cases h3 : g = 2 * (n % g)
          · right; rw [beq_eq_false_iff_ne]; exact fun h4 => h2 ⟨h3, h4⟩
          · left; rw [beq_eq_false_iff_ne]; exact h3
        rw [this]; rfl
  unfold Toward.cut
  simp only [Nat.shiftLeft_eq, Nat.one_mul]
  rw [key]
  unfold rne
  rcases Nat.lt_or_ge (n.log2 + 2) d with h | h
  rotate_left
  · rw [Nat.min_eq_left h]
  · rw [Nat.min_eq_right (by omega)]
    have h1 : n < 2 ^ (n.log2 + 1) := Nat.lt_log2_self
    have h2 : 2 ^ (n.log2 + 2) = 2 * 2 ^ (n.log2 + 1) := by rw [Nat.pow_succ, Nat.mul_comm]
    have h3 : 2 ^ (n.log2 + 2) ≤ 2 ^ d := Nat.pow_le_pow_right (by omega) (by omega)
    rw [Nat.div_eq_of_lt (show n < 2 ^ d by omega), Nat.div_eq_of_lt (show n < 2 ^ (n.log2 + 2) by omega), Nat.mod_eq_of_lt (show n < 2 ^ d by omega), Nat.mod_eq_of_lt (show n < 2 ^ (n.log2 + 2) by omega), if_neg (by omega), if_neg (by omega)]

theorem rne_shift (n d k : Nat) : rne (n * 2 ^ k) (d + k) = rne n d := by
  have hk : 0 < 2 ^ k := Nat.two_pow_pos k
  unfold rne
  rw [Nat.pow_add, Nat.mul_div_mul_right _ _ hk, Nat.mul_mod_mul_right]
  have e1 : (2 ^ d * 2 ^ k < 2 * (n % 2 ^ d * 2 ^ k)) ↔ 2 ^ d < 2 * (n % 2 ^ d) := by
    rw [← Nat.mul_assoc]; exact Nat.mul_lt_mul_right hk
  have e2 : (2 ^ d * 2 ^ k = 2 * (n % 2 ^ d * 2 ^ k)) ↔ 2 ^ d = 2 * (n % 2 ^ d) := by
    rw [← Nat.mul_assoc]; exact ⟨fun h => Nat.eq_of_mul_eq_mul_right hk h, fun h => congrArg (· * 2 ^ k) h⟩
  simp only [e1, e2]
theorem rne_zero (n : Nat) : rne n 0 = n := by
  unfold rne
  simp [Nat.mod_one]
theorem rne_mul (n k : Nat) : rne (n * 2 ^ k) k = n := by
  have := rne_shift n 0 k
  rw [Nat.zero_add, rne_zero] at this
  exact this

theorem log2_mul (n k : Nat) (h : n ≠ 0) : (n * 2 ^ k).log2 = n.log2 + k := by
  have hk : 0 < 2 ^ k := Nat.two_pow_pos k
  have h1 := Nat.log2_self_le h
  have h2 : n < 2 ^ (n.log2 + 1) := Nat.lt_log2_self
  have hne : n * 2 ^ k ≠ 0 := Nat.mul_ne_zero h (by omega)
  apply Nat.le_antisymm
  · have : n * 2 ^ k < 2 ^ (n.log2 + k + 1) := by
      rw [show n.log2 + k + 1 = n.log2 + 1 + k by omega, Nat.pow_add]
      exact Nat.mul_lt_mul_of_pos_right h2 hk
    have := (Nat.log2_lt hne).2 this
    omega
  · rw [Nat.le_log2 hne, Nat.pow_add]
    exact Nat.mul_le_mul_right _ h1

/-- The rung nearest to N * 2^-(1074+e). -/
def R (N e : Nat) : Nat := min ((max (N.log2 - 52) e - e) * B + rne N (max (N.log2 - 52) e)) INF

theorem rne_of_zero (d : Nat) : rne 0 d = 0 := by
  unfold rne
  have := Nat.two_pow_pos d
  simp
theorem R_zero (e : Nat) : R 0 e = 0 := by
  unfold R
  rw [show Nat.log2 0 = 0 by decide, rne_of_zero]
  simp

theorem nearest_R (neg : Bool) (m e k : Nat) : double.nearest neg m (-1074 - (e : Int) + (k : Int)) = double.word neg (R (m * 2 ^ k) e) := by
  unfold Format.nearest
  by_cases hm : m = 0
  · subst hm; rw [if_pos rfl, Nat.zero_mul, R_zero]
  · rw [if_neg hm]
    simp only [binade_eq, inf_eq, lp_eq, cut_even, Nat.shiftLeft_eq]
    unfold R
    rw [log2_mul m k hm, show double.fractionBits = 52 from rfl]
    generalize m.log2 = L
    have hl : max (-1074 - (e : Int) + (k : Int) + (L : Int) - ((52 : Nat) : Int)) (-1074) = -1074 - (e : Int) + ((max (L + k - 52) e : Nat) : Int) := by omega
    rw [hl]
    generalize hD : max (L + k - 52) e = D
    have h1 : (-1074 - (e : Int) + (D : Int) - -1074).toNat = D - e := by omega
    have h2 : (-1074 - (e : Int) + (k : Int) - (-1074 - (e : Int) + (D : Int))).toNat = k - D := by omega
    have h3 : (-1074 - (e : Int) + (D : Int) - (-1074 - (e : Int) + (k : Int))).toNat = D - k := by omega
    rw [h1, h2, h3]
    have h4 : rne (m * 2 ^ (k - D)) (D - k) = rne (m * 2 ^ k) D := by
      rcases Nat.le_total D k with h | h
      · have h5 : m * 2 ^ k = m * 2 ^ (k - D) * 2 ^ D := by rw [Nat.mul_assoc, ← Nat.pow_add, Nat.sub_add_cancel h]
        rw [h5, rne_mul, show D - k = 0 by omega, rne_zero]
      · have h5 : D = D - k + k := by omega
        rw [show k - D = 0 by omega, Nat.pow_zero, Nat.mul_one]
        conv => rhs; rw [h5]
        rw [rne_shift]
    rw [h4]

theorem R_shift (N e k : Nat) : R (N * 2 ^ k) (e + k) = R N e := by
  by_cases h : N = 0
  · subst h; rw [Nat.zero_mul, R_zero, R_zero]
  · unfold R
    rw [log2_mul N k h]
    generalize N.log2 = L
    rw [show max (L + k - 52) (e + k) = max (L - 52) e + k by omega, rne_shift]
    congr 3
    omega

theorem two53 : 2 ^ 53 = 2 * B := by decide
theorem mt_lt {r : Nat} : mt r < 2 * B := by
  unfold mt
  have := Nat.mod_lt r B_pos
  split <;> omega
theorem log2_mt {r : Nat} (h : ¬ r < B) : (mt r).log2 = 52 := by
  have h1 : mt r = B + r % B := by unfold mt; rw [if_neg h]
  have h2 := @mt_lt r
  have hne : mt r ≠ 0 := by have := B_pos; omega
  apply Nat.le_antisymm
  · have := (Nat.log2_lt (k := 53) hne).2 (by rw [two53]; omega)
    omega
  · rw [Nat.le_log2 hne]; rw [B_eq] at h1; omega

/-- A rung is found again. -/
theorem R_val {r : Nat} (h : r < INF) : R (val r) 0 = r := by
  unfold R val
  by_cases hb : r < B
  · have h1 : pl r = 0 := by unfold pl; rw [if_pos hb]
    have h2 : mt r = r := by unfold mt; rw [if_pos hb]
    rw [h1, h2, Nat.pow_zero, Nat.mul_one]
    have : r.log2 ≤ 52 := by
      rcases Nat.eq_zero_or_pos r with h0 | h0
      · subst h0; decide
      · have := (Nat.log2_lt (n := r) (k := 53) (by omega)).2 (by rw [two53]; omega)
        omega
    rw [show max (r.log2 - 52) 0 = 0 by omega, rne_zero]
    omega
  · have h1 : pl r = r / B - 1 := by unfold pl; rw [if_neg hb]
    have h2 : mt r = B + r % B := by unfold mt; rw [if_neg hb]
    have hne : mt r ≠ 0 := by have := B_pos; omega
    rw [log2_mul _ _ hne, log2_mt hb, show max (52 + pl r - 52) 0 = pl r by omega, rne_mul, h2, h1, Nat.sub_zero]
    have h3 := Nat.div_add_mod r B
    have h4 : 1 ≤ r / B := (Nat.le_div_iff_mul_le B_pos).2 (by omega)
    have h5 : (r / B - 1) * B + (B + r % B) = r := by
      rw [Nat.sub_mul, Nat.one_mul, Nat.mul_comm]
      have : B ≤ B * (r / B) := Nat.le_mul_of_pos_right _ (by omega)
      omega
    rw [h5]
    omega
theorem R_val' {r : Nat} (h : r < INF) (e : Nat) : R (val r * 2 ^ e) e = r := by
  have := R_shift (val r) 0 e
  rw [Nat.zero_add, R_val h] at this
  exact this

theorem val_succ (r : Nat) : val (r + 1) = val r + 2 ^ pl r := by
  have hB := B_pos
  unfold val mt pl
  by_cases h1 : r + 1 < B
  · rw [if_pos h1, if_pos h1, if_pos (by omega), if_pos (by omega)]; simp
  · by_cases h2 : r < B
    · have h3 : r + 1 = B := by omega
      rw [if_neg h1, if_neg h1, if_pos h2, if_pos h2, h3, Nat.mod_self, Nat.div_self hB]
      simp; omega
    · rw [if_neg h1, if_neg h1, if_neg h2, if_neg h2]
      have h3 := Nat.div_add_mod r B
      have h4 : 1 ≤ r / B := (Nat.le_div_iff_mul_le B_pos).2 (by omega)
      have h6 := Nat.mod_lt r hB
      generalize hq : r / B = q at *
      generalize hs : r % B = s at *
      by_cases h5 : s + 1 < B
      · have e1 : (r + 1) / B = q := by
          rw [← h3, Nat.add_assoc, Nat.mul_add_div hB, Nat.div_eq_of_lt h5, Nat.add_zero]
        have e2 : (r + 1) % B = s + 1 := by
          rw [← h3, Nat.add_assoc, Nat.mul_add_mod, Nat.mod_eq_of_lt h5]
        rw [e1, e2, ← Nat.add_assoc, Nat.add_mul (B + s) 1, Nat.one_mul]
      · have h7 : s + 1 = B := by omega
        have e1 : (r + 1) / B = q + 1 := by
          rw [← h3, Nat.add_assoc, h7, Nat.mul_add_div hB, Nat.div_self hB]
        have e2 : (r + 1) % B = 0 := by
          rw [← h3, Nat.add_assoc, h7, Nat.mul_add_mod, Nat.mod_self]
        rw [e1, e2, Nat.add_zero, show q + 1 - 1 = (q - 1) + 1 by omega, Nat.pow_succ]
        have : B + s = 2 * B - 1 := by omega
        rw [this]
        have hp := Nat.two_pow_pos (q - 1)
        generalize 2 ^ (q - 1) = t at *
        rw [Nat.sub_mul, Nat.one_mul]
        have : t ≤ 2 * B * t := Nat.le_mul_of_pos_left _ (by omega)
        have : B * (t * 2) = 2 * B * t := by rw [Nat.mul_comm t 2, ← Nat.mul_assoc, Nat.mul_comm B 2]
        omega

theorem val_lt {r s : Nat} (h : r < s) : val r < val s := by
  induction s with
  | zero => omega
  | succ s ih =>
    have := val_succ s
    have hp := Nat.two_pow_pos (pl s)
    rcases Nat.lt_or_eq_of_le (Nat.le_of_lt_succ h) with h | h
    · have := ih h; omega
    · subst h; omega
theorem val_le {r s : Nat} (h : r ≤ s) : val r ≤ val s := by
  rcases Nat.lt_or_eq_of_le h with h | h
  · exact Nat.le_of_lt (val_lt h)
  · rw [h]; exact Nat.le_refl _
theorem val_lt_iff {r s : Nat} : val r < val s ↔ r < s :=
  ⟨fun h => by rcases Nat.lt_or_ge r s with h' | h'
               · exact h'
               · have := val_le h'; omega, val_lt⟩
theorem val_inj {r s : Nat} (h : val r = val s) : r = s := by
  rcases Nat.lt_trichotomy r s with h' | h' | h'
  · have := val_lt h'; omega
  · exact h'
  · have := val_lt h'; omega
theorem val_zero : val 0 = 0 := by decide

end Fl
end Go.Proofs.Ytbpihjcghmmacaa
