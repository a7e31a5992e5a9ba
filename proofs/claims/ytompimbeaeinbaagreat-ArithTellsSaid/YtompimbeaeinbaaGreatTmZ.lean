/-
  THE REFERENCE's Blank, form, May (chapter 4).
-/
import Derived.Test.YtompimbeaeinbaaGreatJ8
namespace Go.Proofs.YtompimbeaeinbaaGreat
open Go.RowKit

/-- Has a record nothing but what its kind tells? -/
def blankB (k n : Int) (g : Bool) (ln : Nat) (u : Int) (s : ByteArray) (m : Nat) : Bool :=
  decide (n = 0 ∨ k = 1 ∨ k = 4 ∨ k = 5) && (decide (ln = 0 ∨ k = 2) && (decide (g = false ∨ k = 2) && (decide (u = 0 ∨ k = 3) && (decide (s.toList = [] ∨ k = 9) && decide (m = 0 ∨ k = 6 ∨ k = 8)))))

set_option maxRecDepth 100000 in
theorem nat_beq0 (m : Nat) : ((m : Int) == 0) = decide (m = 0) := by
  by_cases h : m = 0
  · subst h; rfl
  · rw [decide_eq_false h, beq_eq_false_iff_ne]; omega

set_option maxRecDepth 100000 in
set_option maxHeartbeats 8000000 in
theorem blank_raw (w : World) (k n : Int) (g : Bool) (A : Option Addr) (ln lc : Nat) (u : Int) (s : ByteArray) (B : Option Addr) (m d : Nat) :
    Calls Tryz.prog 79 #[.agg #[.int .i64 k, .int .i64 n, .bool g, .slice A ln lc, .int .u64 u, .string s, .slice B m d]] w fun e w' => e = .returned (.bool (blankB k n g ln u s m)) ∧ Below w.heap.size w w' := by
  obtain ⟨R, hR⟩ : ∃ R, R = blankB k n g ln u s m := ⟨_, rfl⟩
  rw [← hR]
  have HR := Lib.hid hR
  clear hR
  by_cases h1 : k = 1
  · subst h1
    go_enter Tryz.func79, Tryz.ntmps79
    go_wp2
    all_goals
      go_ret
      refine ⟨?_, ((Below.refl _ _).alloc (Nat.le_refl _) _).alloc (by simp) _⟩
      rw [HR.out]
      simp_all [blankB, nat_beq0]
  by_cases h2 : k = 2
  · subst h2
    go_enter Tryz.func79, Tryz.ntmps79
    go_wp2
    all_goals
      go_ret
      refine ⟨?_, ((Below.refl _ _).alloc (Nat.le_refl _) _).alloc (by simp) _⟩
      rw [HR.out]
      simp_all [blankB, nat_beq0]
  by_cases h3 : k = 3
  · subst h3
    go_enter Tryz.func79, Tryz.ntmps79
    go_wp2
    all_goals
      go_ret
      refine ⟨?_, ((Below.refl _ _).alloc (Nat.le_refl _) _).alloc (by simp) _⟩
      rw [HR.out]
      simp_all [blankB, nat_beq0]
  by_cases h4 : k = 4
  · subst h4
    go_enter Tryz.func79, Tryz.ntmps79
    go_wp2
    all_goals
      go_ret
      refine ⟨?_, ((Below.refl _ _).alloc (Nat.le_refl _) _).alloc (by simp) _⟩
      rw [HR.out]
      simp_all [blankB, nat_beq0]
  by_cases h5 : k = 5
  · subst h5
    go_enter Tryz.func79, Tryz.ntmps79
    go_wp2
    all_goals
      go_ret
      refine ⟨?_, ((Below.refl _ _).alloc (Nat.le_refl _) _).alloc (by simp) _⟩
      rw [HR.out]
      simp_all [blankB, nat_beq0]
  by_cases h6 : k = 6
  · subst h6
    go_enter Tryz.func79, Tryz.ntmps79
    go_wp2
    all_goals
      go_ret
      refine ⟨?_, ((Below.refl _ _).alloc (Nat.le_refl _) _).alloc (by simp) _⟩
      rw [HR.out]
      simp_all [blankB, nat_beq0]
  by_cases h7 : k = 7
  · subst h7
    go_enter Tryz.func79, Tryz.ntmps79
    go_wp2
    all_goals
      go_ret
      refine ⟨?_, ((Below.refl _ _).alloc (Nat.le_refl _) _).alloc (by simp) _⟩
      rw [HR.out]
      simp_all [blankB, nat_beq0]
  by_cases h8 : k = 8
  · subst h8
    go_enter Tryz.func79, Tryz.ntmps79
    go_wp2
    all_goals
      go_ret
      refine ⟨?_, ((Below.refl _ _).alloc (Nat.le_refl _) _).alloc (by simp) _⟩
      rw [HR.out]
      simp_all [blankB, nat_beq0]
  by_cases h9 : k = 9
  · subst h9
    go_enter Tryz.func79, Tryz.ntmps79
    go_wp2
    all_goals
      go_ret
      refine ⟨?_, ((Below.refl _ _).alloc (Nat.le_refl _) _).alloc (by simp) _⟩
      rw [HR.out]
      simp_all [blankB, nat_beq0]
  have e1 : (k == 1) = false := beq_eq_false_iff_ne.2 h1
  have e2 : (k == 2) = false := beq_eq_false_iff_ne.2 h2
  have e3 : (k == 3) = false := beq_eq_false_iff_ne.2 h3
  have e4 : (k == 4) = false := beq_eq_false_iff_ne.2 h4
  have e5 : (k == 5) = false := beq_eq_false_iff_ne.2 h5
  have e6 : (k == 6) = false := beq_eq_false_iff_ne.2 h6
  have e7 : (k == 7) = false := beq_eq_false_iff_ne.2 h7
  have e8 : (k == 8) = false := beq_eq_false_iff_ne.2 h8
  have e9 : (k == 9) = false := beq_eq_false_iff_ne.2 h9
  go_enter Tryz.func79, Tryz.ntmps79
  go_wp2
  all_goals
    go_ret
    refine ⟨?_, ((Below.refl _ _).alloc (Nat.le_refl _) _).alloc (by simp) _⟩
    rw [HR.out]
    simp_all [blankB, nat_beq0]
end Go.Proofs.YtompimbeaeinbaaGreat
