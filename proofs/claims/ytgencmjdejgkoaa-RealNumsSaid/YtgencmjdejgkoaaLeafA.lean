import Derived.Test.YtgencmjdejgkoaaMem
namespace Go.Proofs.Ytgencmjdejgkoaa
open Go.RowKit

/-- num.May, of any limbs. -/
def mayB (n : Bool) (l : List Nat) : Bool := if l.length = 0 then !n else decide (l.length ≤ 8) && decide (Lm.lg l (l.length - 1) ≠ 0)

set_option maxHeartbeats 400000 in
theorem may_any (w : World) (g : Bool) (A : Option Addr) (n c : Nat) (l : List Nat) (h : Lim w A n c l) (_hn : c ≤ maxLen) :
    Calls Try.prog 44 #[.agg #[.bool g, .slice A n c]] w fun e w' => e = .returned (.bool (mayB g l)) ∧ w' = w.alloc (.cells #[.bool g, .slice A n c] 31) := by
  unfold maxLen at _hn
  have hnc := h.2.1
  have hll := Lib.hid h.1
  by_cases h0 : n = 0
  · subst h0
    have fin : Hid (mayB g l = !g) := by unfold mayB; rw [if_pos hll.out]; rfl
    go_enter Try.func44, Try.ntmps44
    go_wp2
    go_ret
    rw [fin.out]
    exact ⟨rfl, rfl⟩
  · have hne : (((n : Nat) : Int) == 0) = false := by rw [beq_eq_false_iff_ne]; omega
    obtain ⟨b, o, rfl, hlt, hcell⟩ := h.2.2.2 (by omega)
    have hg := hcell (n - 1) (by omega)
    clear hcell
    by_cases h8 : n ≤ 8
    · by_cases hx : Lm.lg l (n - 1) = 0
      · have fin := Lib.hid (show mayB g l = false by unfold mayB; rw [hll.out, if_neg h0]; simp [hx])
        rw [hx] at hg
        have hX := Lib.hid hx
        clear hx
        go_enter Try.func44, Try.ntmps44
        go_wp2
        go_ret
        rw [fin.out]
        exact ⟨rfl, rfl⟩
      · have fin := Lib.hid (show mayB g l = true by unfold mayB; rw [hll.out, if_neg h0]; simp [hx, h8])
        have hx' : (((Lm.lg l (n - 1) : Nat) : Int) != 0) = true := by rw [bne_iff_ne]; omega
        go_enter Try.func44, Try.ntmps44
        go_wp2
        go_ret
        rw [fin.out]
        exact ⟨rfl, rfl⟩
    · have fin := Lib.hid (show mayB g l = false by unfold mayB; rw [hll.out, if_neg h0]; simp [h8])
      go_enter Try.func44, Try.ntmps44
      go_wp2
      go_ret
      rw [fin.out]
      exact ⟨rfl, rfl⟩

theorem nan_int (x : Int) (w : World) : Calls Try.prog 73 #[.int .i64 x] w fun e w' => e = .returned (.bool false) ∧ w = w' := by
  go_enter Try.func73, Try.ntmps73
  go_wp2
  go_ret
  exact ⟨rfl, rfl⟩
theorem nan_u32 (x : Int) (w : World) : Calls Try.prog 74 #[.int .u32 x] w fun e w' => e = .returned (.bool false) ∧ w = w' := by
  go_enter Try.func74, Try.ntmps74
  go_wp2
  go_ret
  exact ⟨rfl, rfl⟩

theorem compare_int (x y : Nat) (w : World) : Calls Try.prog 70 #[.int .i64 x, .int .i64 y] w fun e w' => e = .returned (.int .i64 (Lm.cmpN x y)) ∧ w = w' := by
  rcases Nat.lt_trichotomy x y with h | h | h
  · have fin : Hid (Lm.cmpN x y = -1) := by unfold Lm.cmpN; rw [if_pos h]; rfl
    go_enter Try.func70, Try.ntmps70
    go_wp2_with (go_at_call 73; refine (nan_int _ _).mono ?_; rintro e w' ⟨rfl, rfl⟩)
    go_ret
    rw [fin.out]; exact ⟨rfl, rfl⟩
  · subst h
    have fin : Hid (Lm.cmpN x x = 0) := by unfold Lm.cmpN; rw [if_neg (by omega), if_neg (by omega)]; rfl
    go_enter Try.func70, Try.ntmps70
    go_wp2_with (go_at_call 73; refine (nan_int _ _).mono ?_; rintro e w' ⟨rfl, rfl⟩)
    go_ret
    rw [fin.out]; exact ⟨rfl, rfl⟩
  · have fin : Hid (Lm.cmpN x y = 1) := by unfold Lm.cmpN; rw [if_neg (by omega), if_pos h]; rfl
    go_enter Try.func70, Try.ntmps70
    go_wp2_with (go_at_call 73; refine (nan_int _ _).mono ?_; rintro e w' ⟨rfl, rfl⟩)
    go_ret
    rw [fin.out]; exact ⟨rfl, rfl⟩

theorem compare_u32 (x y : Nat) (w : World) : Calls Try.prog 71 #[.int .u32 x, .int .u32 y] w fun e w' => e = .returned (.int .i64 (Lm.cmpN x y)) ∧ w = w' := by
  rcases Nat.lt_trichotomy x y with h | h | h
  · have fin : Hid (Lm.cmpN x y = -1) := by unfold Lm.cmpN; rw [if_pos h]; rfl
    go_enter Try.func71, Try.ntmps71
    go_wp2_with (go_at_call 74; refine (nan_u32 _ _).mono ?_; rintro e w' ⟨rfl, rfl⟩)
    go_ret
    rw [fin.out]; exact ⟨rfl, rfl⟩
  · subst h
    have fin : Hid (Lm.cmpN x x = 0) := by unfold Lm.cmpN; rw [if_neg (by omega), if_neg (by omega)]; rfl
    go_enter Try.func71, Try.ntmps71
    go_wp2_with (go_at_call 74; refine (nan_u32 _ _).mono ?_; rintro e w' ⟨rfl, rfl⟩)
    go_ret
    rw [fin.out]; exact ⟨rfl, rfl⟩
  · have fin : Hid (Lm.cmpN x y = 1) := by unfold Lm.cmpN; rw [if_neg (by omega), if_pos h]; rfl
    go_enter Try.func71, Try.ntmps71
    go_wp2_with (go_at_call 74; refine (nan_u32 _ _).mono ?_; rintro e w' ⟨rfl, rfl⟩)
    go_ret
    rw [fin.out]; exact ⟨rfl, rfl⟩

end Go.Proofs.Ytgencmjdejgkoaa
