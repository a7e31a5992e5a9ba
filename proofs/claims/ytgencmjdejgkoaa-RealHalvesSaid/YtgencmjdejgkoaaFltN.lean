/-
  CONTRACTS OF math.Inf, math.Nextafter, beehivelaw0.Low.
-/
import Derived.Test.YtgencmjdejgkoaaLawREdges
namespace Go.Proofs.Ytgencmjdejgkoaa
open Go.RowKit

theorem inf_pos (w : World) : Calls Try.prog 35 #[.int .i64 1] w fun e w' => e = .returned (.float .f64 9218868437227405312) ∧ w = w' := by
  have c1 := call_frombits
  go_enter Try.func35, Try.ntmps35
  go_wp2
  go_ret
  exact ⟨rfl, rfl⟩
theorem inf_neg (w : World) : Calls Try.prog 35 #[.int .i64 (-1)] w fun e w' => e = .returned (.float .f64 18442240474082181120) ∧ w = w' := by
  have c1 := call_frombits
  go_enter Try.func35, Try.ntmps35
  go_wp2
  go_ret
  exact ⟨rfl, rfl⟩
theorem low_i (w : World) (x n : Int) (_hx : (Lit.int .i64 x).wf = true) (hn : 0 < n) (hn2 : n < 4611686018427387904) :
    Calls Try.prog 31 #[.int .i64 x, .int .i64 n] w fun e w' => e = .returned (.int .i64 (x % 18446744073709551616 % n)) ∧ w = w' := by
  have hu : IntKind.u64.wrap n = n := by rw [IntKind.wrap_u64]; omega
  have h1 := Int.emod_nonneg (x % 18446744073709551616) (show n ≠ 0 by omega)
  have h2 := Int.emod_lt_of_pos (x % 18446744073709551616) hn
  go_enter Try.func31, Try.ntmps31
  have h3 : wrap64 ((IntKind.u64.wrap x).tmod n) = x % 18446744073709551616 % n := by
    rw [IntKind.wrap_u64, Int.tmod_eq_emod_of_nonneg (by omega)]
    unfold wrap64
    omega
  have H3 := Lib.hid h3
  clear h3
  go_wp2
  go_ret
  exact ⟨congrArg (fun z => Ending.returned (Value.int .i64 z)) H3.out, rfl⟩

/-- A float's next one towards y. -/
def nextN (x y : Nat) : Nat := if Fl.rg x = 0 then (if Fl.ng y then Fl.S + 1 else 1) else if (decide (Fl.si x < Fl.si y)) == (decide (0 < Fl.si x)) then x + 1 else x - 1

theorem cs_one : bits .andNot .u64 1 9223372036854775808 = 1 := by decide +kernel
theorem and_S {y : Nat} (h : y < 2 * Fl.S) : y &&& 9223372036854775808 = if Fl.ng y then Fl.S else 0 := by
  have e1 : (y &&& Fl.S) % Fl.S = 0 := by
    have := Nat.and_mod_two_pow (a := y) (b := Fl.S) (n := 63)
    rw [← Fl.S_pow, Nat.mod_self, Nat.and_zero] at this
    exact this
  have e2 : (y &&& Fl.S) / Fl.S = y / Fl.S &&& 1 := by
    have := Nat.and_div_two_pow (a := y) (b := Fl.S) (n := 63)
    rw [← Fl.S_pow, Nat.div_self (by decide)] at this
    exact this
  have h1 := Nat.div_add_mod (y &&& Fl.S) Fl.S
  show y &&& Fl.S = _
  rw [e1, e2] at h1
  rw [← h1]
  rcases Fl.ng_eq y h with ⟨h2, h3⟩ | ⟨h2, h3⟩
  · rw [h2, h3]; simp
  · rw [h2, h3]; simp
theorem bits_and_S {y : Nat} (h : y < 2 * Fl.S) : bits .and .u64 (y : Int) 9223372036854775808 = ((if Fl.ng y then Fl.S else 0 : Nat) : Int) := by
  have hu := U64.mk h
  rw [u64_and _ _ hu.1 hu.2 (by decide) (by decide), Int.toNat_natCast]
  exact congrArg (fun n : Nat => (n : Int)) (and_S h)
theorem cs_pos {y : Nat} (h : y < 2 * Fl.S) (hg : Fl.ng y = false) : bits .or .u64 1 (bits .and .u64 (y : Int) 9223372036854775808) = 1 := by
  rw [bits_and_S h, hg]; decide +kernel
theorem cs_neg {y : Nat} (h : y < 2 * Fl.S) (hg : Fl.ng y = true) : bits .or .u64 1 (bits .and .u64 (y : Int) 9223372036854775808) = 9223372036854775809 := by
  rw [bits_and_S h, hg]; decide +kernel
set_option maxRecDepth 100000 in
set_option maxHeartbeats 1000000 in
theorem copysign_one (w : World) (y : Nat) (h : y < 2 * Fl.S) :
    Calls Try.prog 55 #[.float .f64 1, .float .f64 y] w fun e w' => e = .returned (.float .f64 (if Fl.ng y then Fl.S + 1 else 1)) ∧ w = w' := by
  have c1 := call_frombits
  have c2 := call_bits
  have o1 := cs_one
  cases hg : Fl.ng y
  · have o2 := cs_pos h hg
    go_enter Try.func55, Try.ntmps55
    go_wp2
    go_ret
    exact ⟨rfl, rfl⟩
  · have o2 := cs_neg h hg
    go_enter Try.func55, Try.ntmps55
    go_wp2
    go_ret
    exact ⟨rfl, rfl⟩

set_option maxRecDepth 100000 in
set_option maxHeartbeats 4000000 in
theorem next_any (w : World) (x y : Nat) (hx : x < 2 * Fl.S) (hy : y < 2 * Fl.S) (nx : Fl.nanB x = false) (ny : Fl.nanB y = false) (hne : Fl.si x ≠ Fl.si y) :
    Calls Try.prog 34 #[.float .f64 x, .float .f64 y] w fun e w' => e = .returned (.float .f64 (nextN x y)) ∧ w = w' := by
  have c1 := call_frombits
  have c2 := call_bits
  have o1 := flt_eq nx ny
  rw [decide_eq_false hne] at o1
  have o2 := flt_eq nx zero_nan
  rw [zero_si] at o2
  have o3 := flt_gt ny nx
  have o4 := flt_gt nx zero_nan
  rw [zero_si] at o4
  have hs := Fl.split_eq x hx
  have hr := Fl.rg_lt x
  have eS : Fl.S = 9223372036854775808 := rfl
  have hz : Fl.si x = 0 ↔ Fl.rg x = 0 := by unfold Fl.si Fl.sgnd; split <;> omega
  by_cases h0 : Fl.rg x = 0
  · have fin : Hid (nextN x y = if Fl.ng y then Fl.S + 1 else 1) := Lib.hid (by unfold nextN; rw [if_pos h0])
    rw [decide_eq_true (hz.2 h0)] at o2
    have hc := fun w => copysign_one w y hy
    rw [← fin.out] at hc
    clear hs hz o3 o4 h0 eS hr hne
    go_enter Try.func34, Try.ntmps34
    go_wp2_with (first
      | (go_at_call 40; refine (isNaN_any _ _).mono ?_; rintro e w' ⟨rfl, rfl⟩)
      | (go_at_call 55; refine (hc _).mono ?_; rintro e w' ⟨rfl, rfl⟩))
    go_ret
    exact ⟨rfl, rfl⟩
  · rw [decide_eq_false (fun h => h0 (hz.1 h))] at o2
    have hu : x + 1 < 18446744073709551616 ∧ 1 ≤ x := by
      have := of_decide_eq_false nx
      have e : Fl.INF = 9218868437227405312 := rfl
      split at hs <;> omega
    have u1 : IntKind.u64.wrap ((x : Int) + 1) = ((x + 1 : Nat) : Int) := by rw [IntKind.wrap_u64]; omega
    have u2 : IntKind.u64.wrap ((x : Int) - 1) = ((x - 1 : Nat) : Int) := by rw [IntKind.wrap_u64]; omega
    have n1 : ((x : Int) + 1).toNat = x + 1 := by omega
    have n2 : ((x : Int) - 1).toNat = x - 1 := by omega
    clear hs hz eS hr hne
    by_cases hcmp : ((decide (Fl.si x < Fl.si y)) == (decide (0 < Fl.si x))) = true
    · have fin : Hid (nextN x y = x + 1) := Lib.hid (by unfold nextN; rw [if_neg h0, if_pos hcmp])
      have hc' : ((FloatKind.f64.format.order y x == some Ordering.gt) == (FloatKind.f64.format.order x 0 == some Ordering.gt)) = true := by rw [o3, o4]; exact hcmp
      clear hcmp o3 o4
      go_enter Try.func34, Try.ntmps34
      go_wp2_with (go_at_call 40; refine (isNaN_any _ _).mono ?_; rintro e w' ⟨rfl, rfl⟩)
      go_ret
      rw [fin.out]
      exact ⟨rfl, rfl⟩
    · have fin : Hid (nextN x y = x - 1) := Lib.hid (by unfold nextN; rw [if_neg h0, if_neg hcmp])
      have hc' : ((FloatKind.f64.format.order y x == some Ordering.gt) == (FloatKind.f64.format.order x 0 == some Ordering.gt)) = false := by rw [o3, o4]; exact Bool.eq_false_iff.2 hcmp
      clear hcmp o3 o4
      go_enter Try.func34, Try.ntmps34
      go_wp2_with (go_at_call 40; refine (isNaN_any _ _).mono ?_; rintro e w' ⟨rfl, rfl⟩)
      go_ret
      rw [fin.out]
      exact ⟨rfl, rfl⟩
end Go.Proofs.Ytgencmjdejgkoaa
