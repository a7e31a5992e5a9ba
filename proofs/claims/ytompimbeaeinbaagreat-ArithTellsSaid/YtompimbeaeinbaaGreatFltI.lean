/-
  CONTRACTS OF real.lowest, math.Ldexp.
-/
import Derived.Test.YtompimbeaeinbaaGreatFltH
namespace Go.Proofs.YtompimbeaeinbaaGreat
open Go.RowKit

set_option maxRecDepth 100000 in
/-- Bits that lie apart. -/
theorem or_apart {x y : Nat} (k : Nat) (hx : x < 2 ^ k) : x ||| y * 2 ^ k = x + y * 2 ^ k := by
  rw [Nat.or_comm, Nat.mul_comm y, ← Nat.two_pow_add_eq_or_of_lt hx, Nat.add_comm]
set_option maxRecDepth 100000 in
theorem or_join {x y : Nat} (k : Nat) (hx : x < 2 ^ k) (h64 : x + y * 2 ^ k < 18446744073709551616) : bits .or .u64 (x : Int) ((y * 2 ^ k : Nat) : Int) = ((x + y * 2 ^ k : Nat) : Int) := by
  rw [u64_or _ _ (by omega) (by omega) (by omega) (by omega), Int.toNat_natCast, Int.toNat_natCast, or_apart k hx]

set_option maxRecDepth 100000 in
set_option maxHeartbeats 1000000 in
theorem lowest_any (w : World) (A : Option Addr) (n c : Nat) (l : List Nat) (h : Lim w A n c l) (hn : n ≤ 2) :
    Calls Tryz.prog 89 #[.slice A n c] w fun e w' => e = .returned (.int .u64 (Lm.val l : Nat)) ∧ w = w' := by
  have hll := Lib.hid h.1
  have hsm := h.2.2.1
  go_enter Tryz.func89, Tryz.ntmps89
  go_wp2
  go_loop [3, 8] (fun u i => ∃ (k x : Nat), k ≤ n ∧ i = .int .i64 (k : Int) ∧ u = .int .u64 (x : Int) ∧ Hid (Lm.val (l.take k) = x)) (fun _ i => n - (intOf i).toNat)
  case atStart => exact ⟨0, 0, Nat.zero_le _, rfl, rfl, Lib.hid (by simp [Lm.val])⟩
  case round =>
    obtain ⟨k, x, hk, rfl, rfl, hz⟩ := hrel
    by_cases h0 : k < n
    · obtain ⟨b, o, rfl, hlt, hcell⟩ := h.2.2.2 (by omega)
      have hg := hcell k h0
      clear hcell
      have hstep := Lib.hid (Lm.val_take_succ l k)
      have hlg := Lm.lg_lt hsm k
      have hk2 : k = 0 ∨ k = 1 := by omega
      rcases hk2 with rfl | rfl
      · rw [Nat.add_zero] at hg
        have hx : x = 0 := by rw [← hz.out]; rfl
        subst hx
        have e1 : Hid (bits .or .u64 ((0 : Nat) : Int) ((Lm.lg l 0 : Nat) : Int) = ((Lm.lg l 0 : Nat) : Int)) := Lib.hid (by
          rw [u64_or _ _ (by omega) (by omega) (by omega) (by omega), Int.toNat_natCast, Int.toNat_natCast, Nat.zero_or])
        go_wp2
        go_round
        case rel => exact ⟨1, Lm.lg l 0, by omega, rfl, congrArg (Value.int .u64) e1.out, Lib.hid (by rw [hstep.out, hz.out]; simp)⟩
        case measure => simp [intOf]; omega
      · have hx : x < 4294967296 := by
          rw [← hz.out]
          have := Lm.val_lt (Lm.small_take hsm 1)
          have h2 : (l.take 1).length ≤ 1 := by rw [List.length_take]; omega
          have h3 : 4294967296 ^ (l.take 1).length ≤ 4294967296 ^ 1 := Nat.pow_le_pow_right (by omega) h2
          omega
        have e1 : Hid (bits .or .u64 (x : Int) (((Lm.lg l 1 : Nat) : Int) * 4294967296) = ((x + Lm.lg l 1 * 2 ^ 32 : Nat) : Int)) := Lib.hid (by
          have := or_join (x := x) (y := Lm.lg l 1) 32 (by omega) (by omega)
          rw [← this]
          congr 1)
        go_wp2
        go_round
        case rel => exact ⟨2, x + Lm.lg l 1 * 2 ^ 32, by omega, rfl, congrArg (Value.int .u64) e1.out, Lib.hid (by rw [hstep.out, hz.out]; omega)⟩
        case measure => simp [intOf]; omega
    · have fin : Hid (Lm.val l = x) := Lib.hid (by
        have := hz.out
        rwa [List.take_of_length_le (by rw [hll.out]; omega)] at this)
      go_wp2
      go_ret
      rw [fin.out]
      exact ⟨rfl, rfl⟩
end Go.Proofs.YtompimbeaeinbaaGreat
