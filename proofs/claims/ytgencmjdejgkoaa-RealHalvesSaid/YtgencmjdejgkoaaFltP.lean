/-
  THE FLOAT NEAREST TO AN INTEGER OF MORE THAN 53 BITS, AND ITS NEIGHBOURS (no Go here).
-/
import Derived.Test.YtgencmjdejgkoaaLawRMixA
namespace Go.Proofs.Ytgencmjdejgkoaa
namespace Fl
open Ieee

/-- The neighbours of the nearest float, and how far they lie. -/
structure Near (n r X L H : Nat) : Prop where
  vx : val r = X * U
  vl : val (r - 1) = L * U
  vh : val (r + 1) = H * U
  lx : L < X
  xh : X < H
  top : H < 4611686018427387904
  lo : 1023 * B + 1 ≤ r
  hi : r + 1 < INF
  dl : X ≤ n ∨ X + L ≤ 2 * n
  dh : n ≤ X ∨ 2 * n ≤ X + H
  nl : L ≤ n
  nh : n ≤ H
  tie : (2 * n = X + H ∨ 2 * n + H = 3 * X) → n ≠ X → r % 2 = 0

theorem rne_near (n e : Nat) (he : 1 ≤ e) : 2 * n ≤ 2 * (rne n e * 2 ^ e) + 2 ^ e ∧ 2 * (rne n e * 2 ^ e) ≤ 2 * n + 2 ^ e ∧ ((2 * n = 2 * (rne n e * 2 ^ e) + 2 ^ e ∨ 2 * (rne n e * 2 ^ e) = 2 * n + 2 ^ e) → rne n e % 2 = 0) := by
  have hp := Nat.two_pow_pos e
  have h1 := Nat.div_add_mod n (2 ^ e)
  have h2 := Nat.mod_lt n hp
  have h3 : 2 ^ e = 2 * 2 ^ (e - 1) := by rw [← Nat.pow_succ']; congr 1; omega
  unfold rne
  rw [Nat.mul_comm] at h1
  generalize n % 2 ^ e = t at *
  generalize n / 2 ^ e = q at *
  by_cases hc : 2 ^ e < 2 * t ∨ 2 ^ e = 2 * t ∧ q % 2 = 1
  · rw [if_pos hc, Nat.add_mul, Nat.one_mul]
    generalize q * 2 ^ e = Q at *
    generalize 2 ^ e = g at *
    omega
  · rw [if_neg hc, Nat.add_zero]
    generalize q * 2 ^ e = Q at *
    generalize 2 ^ e = g at *
    omega

theorem near_n {n : Nat} (h1 : 9007199254740992 ≤ n) (h2 : n < 1152921504606846976) : ∃ X L H, Near n (ofN n) X L H := by
  have hB : B = 4503599627370496 := rfl
  have hI : INF = 2047 * B := by decide
  have hK := K_eq
  have hU := U_pos
  have h0 : n ≠ 0 := by omega
  obtain ⟨l1, l2⟩ := log2_pos h0
  have hl1 : 53 ≤ n.log2 := (Nat.le_log2 h0).2 (by omega)
  have hl2 : n.log2 < 60 := (Nat.log2_lt h0).2 (by omega)
  obtain ⟨e, he⟩ : ∃ e, n.log2 = 52 + e := ⟨n.log2 - 52, by omega⟩
  rw [he] at l1 l2
  have he1 : 1 ≤ e := by omega
  have he2 : e ≤ 7 := by omega
  obtain ⟨a1, a2, a3⟩ := rne_near n e he1
  have hg := Nat.two_pow_pos e
  have hge : 2 ^ e ≤ 128 := Nat.le_trans (Nat.pow_le_pow_right (by omega) he2) (by decide)
  have hg2 : 2 ^ e = 2 * 2 ^ (e - 1) := by rw [← Nat.pow_succ']; congr 1; omega
  have l1' : B * 2 ^ e ≤ n := by rw [B_eq, ← Nat.pow_add]; exact l1
  have l2' : n < 2 * B * 2 ^ e := by
    rw [← two53, ← Nat.pow_add]
    have : 53 + e = 52 + e + 1 := by omega
    rw [this]; exact l2
  have hr : ofN n = (e + 1074) * B + rne n e := by
    unfold ofN R
    rw [U_log2 n h0, he, show max (52 + e + 1074 - 52) 0 = e + 1074 by omega, Nat.sub_zero, U_def]
    have : e + 1074 = e + K := by omega
    rw [this, rne_shift]
    apply Nat.min_eq_left
    have hM : rne n e ≤ 2 * B := by
      have : n / 2 ^ e < 2 * B := (Nat.div_lt_iff_lt_mul hg).2 l2'
      unfold rne; split <;> omega
    have : (e + K) * B ≤ 1081 * B := Nat.mul_le_mul_right _ (by omega)
    omega
  have hM1 : B ≤ rne n e := by
    have : B ≤ n / 2 ^ e := (Nat.le_div_iff_mul_le hg).2 l1'
    unfold rne; omega
  have hM2 : rne n e ≤ 2 * B := by
    have : n / 2 ^ e < 2 * B := (Nat.div_lt_iff_lt_mul hg).2 l2'
    unfold rne; split <;> omega
  have hUe : 2 ^ (e + 1074) = 2 ^ e * U := by rw [Nat.pow_add, U_def, hK]
  have hUe' : 2 ^ (e + 1073) = 2 ^ (e - 1) * U := by
    rw [show e + 1073 = e - 1 + K by omega, Nat.pow_add, U_def]
  have hcast : (e + 1074) * B ≤ 1081 * B := Nat.mul_le_mul_right _ (by omega)
  have hcast' : 1075 * B ≤ (e + 1074) * B := Nat.mul_le_mul_right _ (by omega)
  rw [hr]
  generalize rne n e = M at *
  have hBe : B * 2 ^ e ≤ M * 2 ^ e := Nat.mul_le_mul_right _ hM1
  have hBe2 : M * 2 ^ e ≤ 2 * B * 2 ^ e := Nat.mul_le_mul_right _ hM2
  have hcap : 2 * B * 2 ^ e ≤ 2 * B * 128 := Nat.mul_le_mul_left _ hge
  by_cases hM : M < 2 * B
  · obtain ⟨m1, m2⟩ := mt_at (e + 1074) M hM1 hM
    have vx : val ((e + 1074) * B + M) = M * 2 ^ e * U := by unfold val; rw [m1, m2, hUe, Nat.mul_assoc]
    have vh : val ((e + 1074) * B + M + 1) = (M * 2 ^ e + 2 ^ e) * U := by
      rw [val_succ, vx, m2, hUe, Nat.add_mul]
    by_cases hMB : M = B
    · have hpl : pl ((e + 1074) * B + M - 1) = e + 1073 := by
        have : (e + 1074) * B + M - 1 = (e + 1073) * B + (2 * B - 1) := by
          have : (e + 1074) * B = (e + 1073) * B + B := by rw [show e + 1074 = e + 1073 + 1 from rfl, Nat.add_mul, Nat.one_mul]
          omega
        rw [this]
        exact (mt_at (e + 1073) (2 * B - 1) (by omega) (by omega)).2
      have vl : val ((e + 1074) * B + M - 1) = (M * 2 ^ e - 2 ^ (e - 1)) * U := by
        have := val_succ ((e + 1074) * B + M - 1)
        rw [show (e + 1074) * B + M - 1 + 1 = (e + 1074) * B + M by omega, vx, hpl, hUe'] at this
        rw [Nat.sub_mul]; omega
      refine ⟨_, _, _, ⟨vx, vl, vh, ?_, ?_, ?_, ?_, ?_, ?_, ?_, ?_, ?_, ?_⟩⟩
      all_goals subst hMB
      all_goals first
        | omega
        | (intro h3 h4; rw [hB]; omega)
    · have hpl : pl ((e + 1074) * B + M - 1) = e + 1074 := by
        have : (e + 1074) * B + M - 1 = (e + 1074) * B + (M - 1) := by omega
        rw [this]
        exact (mt_at (e + 1074) (M - 1) (by omega) (by omega)).2
      have vl : val ((e + 1074) * B + M - 1) = (M * 2 ^ e - 2 ^ e) * U := by
        have := val_succ ((e + 1074) * B + M - 1)
        rw [show (e + 1074) * B + M - 1 + 1 = (e + 1074) * B + M by omega, vx, hpl, hUe] at this
        rw [Nat.sub_mul]; omega
      refine ⟨_, _, _, ⟨vx, vl, vh, ?_, ?_, ?_, ?_, ?_, ?_, ?_, ?_, ?_, ?_⟩⟩
      all_goals first
        | omega
        | (intro h3 h4
           have hp : ((e + 1074) * B + M) % 2 = M % 2 := by
             rw [hB, show (e + 1074) * 4503599627370496 = 2 * ((e + 1074) * 2251799813685248) by omega, Nat.mul_add_mod]
           rw [hp]
           apply a3
           omega)
  · have hM3 : M = 2 * B := by omega
    have er : (e + 1074) * B + M = (e + 1075) * B + B := by
      rw [show e + 1075 = e + 1074 + 1 from rfl, Nat.add_mul (e + 1074) 1, Nat.one_mul]; omega
    obtain ⟨m1, m2⟩ := mt_at (e + 1075) B (Nat.le_refl _) (by omega)
    have hUe2 : 2 ^ (e + 1075) = 2 * 2 ^ e * U := by
      rw [show e + 1075 = e + 1 + K by omega, Nat.pow_add, Nat.pow_succ, U_def, Nat.mul_comm (2 ^ e) 2]
    have eM : M * 2 ^ e = B * (2 * 2 ^ e) := by rw [hM3, Nat.mul_comm 2 B, Nat.mul_assoc]
    have vx : val ((e + 1074) * B + M) = M * 2 ^ e * U := by
      rw [er]; unfold val; rw [m1, m2, hUe2, eM, Nat.mul_assoc B (2 * 2 ^ e) U]
    have vh : val ((e + 1074) * B + M + 1) = (M * 2 ^ e + 2 * 2 ^ e) * U := by
      rw [val_succ, vx, er, m2, hUe2, Nat.add_mul]
    have hpl : pl ((e + 1074) * B + M - 1) = e + 1074 := by
      have : (e + 1074) * B + M - 1 = (e + 1074) * B + (2 * B - 1) := by omega
      rw [this]
      exact (mt_at (e + 1074) (2 * B - 1) (by omega) (by omega)).2
    have vl : val ((e + 1074) * B + M - 1) = (M * 2 ^ e - 2 ^ e) * U := by
      have := val_succ ((e + 1074) * B + M - 1)
      rw [show (e + 1074) * B + M - 1 + 1 = (e + 1074) * B + M by omega, vx, hpl, hUe] at this
      rw [Nat.sub_mul]; omega
    refine ⟨_, _, _, ⟨vx, vl, vh, ?_, ?_, ?_, ?_, ?_, ?_, ?_, ?_, ?_, ?_⟩⟩
    all_goals first
      | omega
      | (intro h3 h4; omega)
end Fl
end Go.Proofs.Ytgencmjdejgkoaa
