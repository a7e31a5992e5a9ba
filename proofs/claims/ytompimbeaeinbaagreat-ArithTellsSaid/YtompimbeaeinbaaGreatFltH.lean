/-
  CONTRACTS OF bits.LeadingZeros32, real.lowest, real.allZero, math.Ldexp.
-/
import Derived.Test.YtompimbeaeinbaaGreatFltG
import Derived.Lib.BitFns
import Derived.Laws.Bits128
namespace Go.Proofs.YtompimbeaeinbaaGreat
open Go.RowKit

set_option maxRecDepth 100000 in
theorem bitLen_log2 {x : Nat} (h0 : x ≠ 0) (h : x < 2 ^ 64) : Lib.bitLen x = x.log2 + 1 := by
  obtain ⟨l1, l2⟩ := Fl.log2_pos h0
  rw [Lib.bitLen_shift x.log2 x l1 h]
  have : x / 2 ^ x.log2 = 1 := by
    rw [Nat.pow_succ] at l2
    have hp := Nat.two_pow_pos x.log2
    apply Nat.le_antisymm
    · have : x / 2 ^ x.log2 < 2 := (Nat.div_lt_iff_lt_mul hp).2 (by omega)
      omega
    · exact (Nat.le_div_iff_mul_le hp).2 (by omega)
  rw [this]
  have : Lib.bitLen 1 = 1 := by decide
  omega

set_option maxRecDepth 100000 in
set_option maxHeartbeats 4000000 in
set_option maxRecDepth 100000 in
theorem len32_any (x : Int) (w : World) (h0 : 0 ≤ x) (h1 : x ≤ 4294967295) :
    Calls Tryz.prog 103 #[.int .u32 x] w fun e w' => e = .returned (.int .i64 (Lib.bitLen x.toNat)) ∧ w = w' := by
  rcases Int.lt_or_le x 256 with ha | ha
  · have hb : x ≤ 255 := by omega
    have fin : Hid (Lib.len8 x = (Lib.bitLen x.toNat : Int)) := Lib.hid (Lib.len8_of x h0 hb)
    have l := Lib.bitLen_le8' x h0 hb
    go_enter Tryz.func103, Tryz.ntmps103
    go_wp2
    go_ret
    refine ⟨congrArg Ending.returned (congrArg (Value.int IntKind.i64) ?_), rfl⟩
    rw [fin.out]
    simp only [wrap64]
    omega
  · rcases Int.lt_or_le x 65536 with hc | hc
    · have hb : x / 256 ≤ 255 := by omega
      have hb0 : 0 ≤ x / 256 := by omega
      have fin : Hid (Lib.len8 (x / 256) = (Lib.bitLen (x / 256).toNat : Int)) := Lib.hid (Lib.len8_of (x / 256) hb0 hb)
      have l := Lib.bitLen_le8' (x / 256) hb0 hb
      have s := Lib.hid (Lib.bitLen_shift8 x.toNat (by omega) (by omega))
      have e : Hid ((x / 256).toNat = x.toNat / 256) := Lib.hid (by omega)
      go_enter Tryz.func103, Tryz.ntmps103
      go_wp2
      go_ret
      refine ⟨congrArg Ending.returned (congrArg (Value.int IntKind.i64) ?_), rfl⟩
      rw [fin.out, s.out, ← e.out]
      simp only [wrap64]
      omega
    · rcases Int.lt_or_le (x / 65536) 256 with hd | hd
      · have hb : x / 65536 ≤ 255 := by omega
        have hb0 : 0 ≤ x / 65536 := by omega
        have fin : Hid (Lib.len8 (x / 65536) = (Lib.bitLen (x / 65536).toNat : Int)) := Lib.hid (Lib.len8_of (x / 65536) hb0 hb)
        have l := Lib.bitLen_le8' (x / 65536) hb0 hb
        have s := Lib.hid (Lib.bitLen_shift16 x.toNat (by omega) (by omega))
        have e : Hid ((x / 65536).toNat = x.toNat / 65536) := Lib.hid (by omega)
        go_enter Tryz.func103, Tryz.ntmps103
        go_wp2
        go_ret
        refine ⟨congrArg Ending.returned (congrArg (Value.int IntKind.i64) ?_), rfl⟩
        rw [fin.out, s.out, ← e.out]
        simp only [wrap64]
        omega
      · have hb : x / 65536 / 256 ≤ 255 := by omega
        have hb0 : 0 ≤ x / 65536 / 256 := by omega
        have fin : Hid (Lib.len8 (x / 65536 / 256) = (Lib.bitLen (x / 65536 / 256).toNat : Int)) := Lib.hid (Lib.len8_of (x / 65536 / 256) hb0 hb)
        have l := Lib.bitLen_le8' (x / 65536 / 256) hb0 hb
        have s := Lib.hid (Lib.bitLen_shift24 x.toNat (by omega) (by omega))
        have e : Hid ((x / 65536 / 256).toNat = x.toNat / 16777216) := Lib.hid (by omega)
        go_enter Tryz.func103, Tryz.ntmps103
        go_wp2
        go_ret
        refine ⟨congrArg Ending.returned (congrArg (Value.int IntKind.i64) ?_), rfl⟩
        rw [fin.out, s.out, ← e.out]
        simp only [wrap64]
        omega

set_option maxRecDepth 100000 in
set_option maxHeartbeats 400000 in
theorem lz_any (x : Nat) (w : World) (h0 : x ≠ 0) (h1 : x < 4294967296) :
    Calls Tryz.prog 90 #[.int .u32 (x : Int)] w fun e w' => e = .returned (.int .i64 ((31 - x.log2 : Nat) : Int)) ∧ w = w' := by
  have hl : x.log2 < 32 := (Nat.log2_lt h0).2 (by omega)
  have fin : Hid ((Lib.bitLen x : Nat) = x.log2 + 1) := Lib.hid (bitLen_log2 h0 (by omega))
  have hle : Lib.bitLen x ≤ 32 := by rw [fin.out]; omega
  have e1 : Hid ((32 : Int) - ((Lib.bitLen x : Nat) : Int) = ((31 - x.log2 : Nat) : Int)) := Lib.hid (by rw [fin.out]; omega)
  clear hl
  go_enter Tryz.func90, Tryz.ntmps90
  go_wp2_with fail
  refine (len32_any _ _ (by omega) (by omega)).mono ?_
  rintro e w' ⟨rfl, rfl⟩
  rw [Int.toNat_natCast]
  go_wp2
  go_ret
  rw [e1.out]
  exact ⟨rfl, rfl⟩

set_option maxRecDepth 100000 in
set_option maxHeartbeats 1000000 in
theorem allZero_any (w : World) (A : Option Addr) (n c : Nat) (l : List Nat) (h : Lim w A n c l) (hn : n ≤ 1000) :
    Calls Tryz.prog 91 #[.slice A n c] w fun e w' => e = .returned (.bool (decide (Lm.val l = 0))) ∧ w = w' := by
  have hll := Lib.hid h.1
  have hsm := h.2.2.1
  go_enter Tryz.func91, Tryz.ntmps91
  go_wp2
  go_loop [7] (fun i => ∃ k : Nat, k ≤ n ∧ i = .int .i64 (k : Int) ∧ Hid (Lm.val (l.take k) = 0)) (fun i => n - (intOf i).toNat)
  case atStart => exact ⟨0, Nat.zero_le _, rfl, Lib.hid (by simp [Lm.val])⟩
  case round =>
    obtain ⟨k, hk, rfl, hz⟩ := hrel
    by_cases h0 : k < n
    · obtain ⟨b, o, rfl, hlt, hcell⟩ := h.2.2.2 (by omega)
      have hg := hcell k h0
      clear hcell
      have hstep := Lib.hid (Lm.val_take_succ l k)
      by_cases hx : Lm.lg l k = 0
      · rw [hx] at hg
        have hX := Lib.hid hx
        clear hx
        go_wp2
        go_round
        case rel => exact ⟨k + 1, by omega, by go_num, Lib.hid (by rw [hstep.out, hz.out, hX.out]; rfl)⟩
        case measure => simp [intOf]; omega
      · have hx' : (((Lm.lg l k : Nat) : Int) != 0) = true := by rw [bne_iff_ne]; omega
        have fin : Hid (decide (Lm.val l = 0) = false) := Lib.hid (by
          rw [decide_eq_false_iff_not]
          intro hv
          have e1 := Lm.val_append (l.take (k + 1)) (l.drop (k + 1))
          rw [List.take_append_drop, hv, hstep.out, hz.out] at e1
          have hp : 0 < 4294967296 ^ k * Lm.lg l k := Nat.mul_pos (Nat.pow_pos (by decide)) (by omega)
          omega)
        go_wp2
        go_ret
        rw [fin.out]
        exact ⟨rfl, rfl⟩
    · have fin : Hid (decide (Lm.val l = 0) = true) := Lib.hid (by
        rw [decide_eq_true_iff]
        have := hz.out
        rwa [List.take_of_length_le (by rw [hll.out]; omega)] at this)
      go_wp2
      go_ret
      rw [fin.out]
      exact ⟨rfl, rfl⟩
end Go.Proofs.YtompimbeaeinbaaGreat
