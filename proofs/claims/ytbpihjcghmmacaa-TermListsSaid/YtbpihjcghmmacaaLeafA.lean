import Derived.Test.YtbpihjcghmmacaaMem
namespace Go.Proofs.Ytbpihjcghmmacaa
open Go.RowKit

set_option maxHeartbeats 400000 in
theorem trimmed_any (w : World) (A : Option Addr) (n c : Nat) (l : List Nat) (h : Lim w A n c l) (hn : c ≤ maxLen) :
    Calls Try.prog 52 #[.slice A n c] w fun e w' => e = .returned (.slice A (Lm.digits (Lm.val l)).length c) ∧ w = w' := by
  unfold maxLen at hn
  have hnc := h.2.1
  have hsm := h.2.2.1
  have hll := Lib.hid h.1
  go_enter Try.func52, Try.ntmps52
  go_wp2
  go_loop [3] (fun i => ∃ k : Nat, k ≤ n ∧ i = .int .i64 k ∧ Hid (∀ j, k ≤ j → j < l.length → l.getD j 0 = 0)) (fun i => (intOf i).toNat)
  case atStart => exact ⟨n, Nat.le_refl _, rfl, fun j h1 h2 => by have := hll.out; omega⟩
  case round =>
    obtain ⟨k, hk, rfl, hz⟩ := hrel
    by_cases h0 : k = 0
    · subst h0
      have fin := Lib.hid (Lm.digits_prefix hsm 0 (by omega) hz.out (.inl rfl))
      go_wp2
      go_ret
      rw [fin.out]
      exact ⟨by simp, rfl⟩
    · obtain ⟨b, o, rfl, hlt, hcell⟩ := h.2.2.2 (by omega)
      have hg := hcell (k - 1) (by omega)
      have hpos : (0 : Int) < (k : Int) := by omega
      have hh := Lib.hid hcell
      clear hcell
      by_cases hx : Lm.lg l (k - 1) = 0
      · rw [hx] at hg
        have hX := Lib.hid hx
        clear hx
        go_wp2
        go_round
        case rel => exact ⟨k - 1, by omega, by go_num, fun j h1 h2 => by
          by_cases e : j = k - 1
          · rw [e]; exact hX.out
          · exact hz.out j (by omega) h2⟩
        case measure => simp [intOf]; omega
      · have hx' : (((Lm.lg l (k - 1) : Nat) : Int) == 0) = false := by rw [beq_eq_false_iff_ne]; omega
        have fin := Lib.hid (Lm.digits_prefix hsm k (by rw [hll.out]; exact hk) hz.out (.inr hx))
        go_wp2
        go_ret
        rw [fin.out]
        exact ⟨by rw [List.length_take, hll.out, Nat.min_eq_left hk]; rfl, rfl⟩

/-- num.May, of any limbs. -/
def mayB (n : Bool) (l : List Nat) : Bool := if l.length = 0 then !n else decide (l.length ≤ 8) && decide (Lm.lg l (l.length - 1) ≠ 0)

set_option maxHeartbeats 400000 in
theorem may_any (w : World) (g : Bool) (A : Option Addr) (n c : Nat) (l : List Nat) (h : Lim w A n c l) (_hn : c ≤ maxLen) :
    Calls Try.prog 43 #[.agg #[.bool g, .slice A n c]] w fun e w' => e = .returned (.bool (mayB g l)) ∧ w' = w.alloc (.cells #[.bool g, .slice A n c] 24) := by
  unfold maxLen at _hn
  have hnc := h.2.1
  have hll := Lib.hid h.1
  by_cases h0 : n = 0
  · subst h0
    have fin : Hid (mayB g l = !g) := by unfold mayB; rw [if_pos hll.out]; rfl
    go_enter Try.func43, Try.ntmps43
    go_wp2
    go_ret
    rw [fin.out]
    exact ⟨rfl, rfl⟩
  · have hne : (((n : Nat) : Int) == 0) = false := by rw [beq_eq_false_iff_ne]; omega
    obtain ⟨b, o, rfl, hlt, hcell⟩ := h.2.2.2 (by omega)
    have hg := hcell (n - 1) (by omega)
    clear hcell
    by_cases h8 : n ≤ 8
    · by_cases hx : Lm.lg l (n - 1) = 0
      · have fin := Lib.hid (show mayB g l = false by unfold mayB; rw [hll.out, if_neg h0]; simp [hx])
        rw [hx] at hg
        have hX := Lib.hid hx
        clear hx
        go_enter Try.func43, Try.ntmps43
        go_wp2
        go_ret
        rw [fin.out]
        exact ⟨rfl, rfl⟩
      · have fin := Lib.hid (show mayB g l = true by unfold mayB; rw [hll.out, if_neg h0]; simp [hx, h8])
        have hx' : (((Lm.lg l (n - 1) : Nat) : Int) != 0) = true := by rw [bne_iff_ne]; omega
        go_enter Try.func43, Try.ntmps43
        go_wp2
        go_ret
        rw [fin.out]
        exact ⟨rfl, rfl⟩
    · have fin := Lib.hid (show mayB g l = false by unfold mayB; rw [hll.out, if_neg h0]; simp [h8])
      go_enter Try.func43, Try.ntmps43
      go_wp2
      go_ret
      rw [fin.out]
      exact ⟨rfl, rfl⟩

end Go.Proofs.Ytbpihjcghmmacaa
