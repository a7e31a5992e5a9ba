/-
  PLAIN MATHEMATICS OF NumRoom: how many bits a number has, and how many limbs.
-/
import Derived.Test.YtlmojomnebjhaaaNatB
namespace Go.Proofs.Ytlmojomnebjhaaa.Lm

/-- How many times a number can be halved till it is nothing. -/
def bl (n : Nat) : Nat := if h : n = 0 then 0 else 1 + bl (n / 2)
termination_by n
decreasing_by omega

theorem bl_zero : bl 0 = 0 := by rw [bl]; simp
theorem bl_pos {n : Nat} (h : n ≠ 0) : bl n = 1 + bl (n / 2) := by rw [bl]; simp [h]

theorem bl_spec (n : Nat) (h : 0 < n) : 1 ≤ bl n ∧ 2 ^ (bl n - 1) ≤ n ∧ n < 2 ^ bl n := by
  induction n using Nat.strongRecOn with
  | ind n ih =>
    rw [bl_pos (by omega)]
    by_cases h2 : n / 2 = 0
    · rw [h2, bl_zero]
      have : n = 1 := by omega
      subst this
      decide
    · obtain ⟨h1, h3, h4⟩ := ih (n / 2) (by omega) (by omega)
      obtain ⟨k, hk⟩ : ∃ k, bl (n / 2) = k + 1 := ⟨_, (Nat.succ_pred_eq_of_pos h1).symm⟩
      rw [hk] at h3 h4 ⊢
      rw [Nat.add_sub_cancel] at h3
      refine ⟨by omega, ?_, ?_⟩
      · rw [show 1 + (k + 1) - 1 = k + 1 from by omega, Nat.pow_succ]
        omega
      · rw [show 1 + (k + 1) = (k + 1) + 1 from by omega, Nat.pow_succ]
        generalize 2 ^ (k + 1) = P at *
        omega

theorem bl_le (n k : Nat) (h : n < 2 ^ k) : bl n ≤ k := by
  rcases Nat.eq_zero_or_pos n with h0 | h0
  · subst h0; rw [bl_zero]; exact Nat.zero_le _
  · obtain ⟨h1, h2, _⟩ := bl_spec n h0
    have : 2 ^ (bl n - 1) < 2 ^ k := Nat.lt_of_le_of_lt h2 h
    have := (Nat.pow_lt_pow_iff_right (by decide : 1 < 2)).1 this
    omega

theorem digits_bits {v b : Nat} (hb : 1 ≤ b) (h1 : 2 ^ (b - 1) ≤ v) (h2 : v < 2 ^ b) : (digits v).length = (b + 31) / 32 := by
  have e : ∀ k, 4294967296 ^ k = 2 ^ (32 * k) := fun k => by rw [Nat.pow_mul]
  have a1 : (digits v).length ≤ (b + 31) / 32 := by
    refine (digits_length v _).2 (Nat.lt_of_lt_of_le h2 ?_)
    rw [e]
    exact Nat.pow_le_pow_right (by decide) (by omega)
  have a2 : ¬ (digits v).length ≤ (b + 31) / 32 - 1 := fun h => by
    have := (digits_length v _).1 h
    rw [e] at this
    have h3 : 2 ^ (32 * ((b + 31) / 32 - 1)) ≤ 2 ^ (b - 1) := Nat.pow_le_pow_right (by decide) (by omega)
    omega
  omega

theorem room_bits (n many : Nat) (hn : 0 < n) : 1 ≤ many + bl n ∧ 2 ^ (many + bl n - 1) ≤ n * 2 ^ many ∧ n * 2 ^ many < 2 ^ (many + bl n) := by
  obtain ⟨h1, h2, h3⟩ := bl_spec n hn
  refine ⟨by omega, ?_, ?_⟩
  · rw [show many + bl n - 1 = (bl n - 1) + many from by omega, Nat.pow_add]
    exact Nat.mul_le_mul_right _ h2
  · rw [Nat.add_comm, Nat.pow_add]
    exact Nat.mul_lt_mul_of_pos_right h3 (Nat.two_pow_pos _)

theorem room_fits (n many : Nat) (hn : 0 < n) : n * 2 ^ many < 4294967296 ^ 8 ↔ many + bl n ≤ 256 := by
  obtain ⟨h1, h2, h3⟩ := room_bits n many hn
  have e : 4294967296 ^ 8 = 2 ^ 256 := by decide
  rw [e]
  constructor
  · intro h
    have := Nat.lt_of_le_of_lt h2 h
    have := (Nat.pow_lt_pow_iff_right (by decide : 1 < 2)).1 this
    omega
  · intro h
    exact Nat.lt_of_lt_of_le h3 (Nat.pow_le_pow_right (by decide) h)

end Go.Proofs.Ytlmojomnebjhaaa.Lm
