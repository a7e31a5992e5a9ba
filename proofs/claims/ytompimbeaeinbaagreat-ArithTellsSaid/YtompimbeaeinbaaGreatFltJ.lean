/-
  CONTRACT OF math.Ldexp, where a power of two is put to a float from one on.
-/
import Derived.Test.YtompimbeaeinbaaGreatFltI
namespace Go.Proofs.YtompimbeaeinbaaGreat
open Go.RowKit

namespace Fl
open Ieee
def ONE : Nat := 4607182418800017408
set_option maxRecDepth 100000 in
theorem one_rg : rg ONE = 1023 * B := by decide
set_option maxRecDepth 100000 in
theorem one_ng : ng ONE = false := by decide
set_option maxRecDepth 100000 in
theorem one_fin : rg ONE < INF := by decide
set_option maxRecDepth 100000 in
theorem one_val : val (rg ONE) = 2 ^ 0 * U := by
  rw [one_rg]; exact val_binade 1023 0 (by omega) (by rw [K_eq])
set_option maxRecDepth 100000 in
theorem one_mt : mt (rg ONE) = B := by decide
set_option maxRecDepth 100000 in
theorem one_pl : pl (rg ONE) = 1022 := by decide
set_option maxRecDepth 100000 in
/-- a * 1 -/
theorem mul_one {a : Nat} (ha : rg a < INF) (h : a < 2 * S) : double.mul a ONE = some a := by
  rw [mul_pow ha one_fin one_val, one_ng, Nat.pow_zero, Nat.mul_one, R_val ha, Bool.xor_false, word_eq h]
set_option maxRecDepth 100000 in
theorem product_comm (x y : Datum) : x.product y = y.product x := by
  cases x <;> cases y <;> simp [Datum.product, Bool.xor_comm, Nat.mul_comm, Int.add_comm]
set_option maxRecDepth 100000 in
theorem mul_comm (a b : Nat) : double.mul a b = double.mul b a := by
  unfold Format.mul; rw [product_comm]
end Fl

set_option maxRecDepth 100000 in
theorem max_si : Fl.si 9218868437227405311 = 9218868437227405311 := by decide
set_option maxRecDepth 100000 in
theorem max_nan : Fl.nanB 9218868437227405311 = false := by decide
set_option maxRecDepth 100000 in
theorem sub_si : Fl.si 4503599627370496 = 4503599627370496 := by decide
set_option maxRecDepth 100000 in
theorem sub_nan : Fl.nanB 4503599627370496 = false := by decide
set_option maxRecDepth 100000 in
theorem zero_si : Fl.si 0 = 0 := by decide
set_option maxRecDepth 100000 in
theorem zero_nan : Fl.nanB 0 = false := by decide

/-- A float from one on, below an infinity. -/
structure Pos (x : Nat) : Prop where
  lo : 4607182418800017408 ≤ x
  hi : x < 9218868437227405312
set_option maxRecDepth 100000 in
theorem Pos.s {x : Nat} (h : Pos x) : x < Fl.S := by have : Fl.S = 9223372036854775808 := rfl
                                                     have := h.hi; omega
set_option maxRecDepth 100000 in
theorem Pos.rg {x : Nat} (h : Pos x) : Fl.rg x = x := Fl.pos_rg h.s
set_option maxRecDepth 100000 in
theorem Pos.ng {x : Nat} (h : Pos x) : Fl.ng x = false := Fl.pos_ng h.s
set_option maxRecDepth 100000 in
theorem Pos.si {x : Nat} (h : Pos x) : Fl.si x = (x : Int) := by unfold Fl.si Fl.sgnd; rw [h.ng, h.rg]; rfl
set_option maxRecDepth 100000 in
theorem Pos.nan {x : Nat} (h : Pos x) : Fl.nanB x = false := by
  unfold Fl.nanB; rw [h.rg]; exact decide_eq_false (by have : Fl.INF = 9218868437227405312 := rfl
                                                       have := h.hi; omega)

set_option maxRecDepth 100000 in
set_option maxHeartbeats 1000000 in
theorem isInf_pos (w : World) (x : Nat) (h : Pos x) :
    Calls Tryz.prog 95 #[.float .f64 x, .int .i64 0] w fun e w' => e = .returned (.bool false) ∧ w = w' := by
  have hS := h.s
  have o1 := flt_gt h.nan max_nan
  rw [h.si, max_si, decide_eq_false (by have := h.hi; omega)] at o1
  have hr := Lib.hid h.rg
  go_enter Tryz.func95, Tryz.ntmps95
  go_wp2_with fail
  refine (abs_any _ _ (by omega)).mono ?_
  rintro e w' ⟨rfl, rfl⟩
  rw [hr.out]
  go_wp2
  go_ret
  exact ⟨rfl, rfl⟩

set_option maxRecDepth 100000 in
set_option maxHeartbeats 1000000 in
theorem normalize_pos (w : World) (x : Nat) (h : Pos x) :
    Calls Tryz.prog 97 #[.float .f64 x] w fun e w' => e = .returned (.tuple #[.float .f64 x, .int .i64 0]) ∧ w = w' := by
  have hS := h.s
  have o1 := flt_lt h.nan sub_nan
  rw [h.si, sub_si, decide_eq_false (by have := h.lo; omega)] at o1
  have hr := Lib.hid h.rg
  go_enter Tryz.func97, Tryz.ntmps97
  go_wp2_with fail
  refine (abs_any _ _ (by omega)).mono ?_
  rintro e w' ⟨rfl, rfl⟩
  rw [hr.out]
  go_wp2
  go_ret2
  exact ⟨rfl, rfl⟩

set_option maxRecDepth 100000 in
theorem i64_and2047 (n : Int) : bits .and .i64 n 2047 = n % 2048 := by
  have h127 : (BitVec.ofInt 64 2047).toNat = 2 ^ 11 - 1 := by decide
  have key : (BitVec.ofInt 64 n &&& BitVec.ofInt 64 2047).toNat = (n % ((2 ^ 64 : Nat) : Int)).toNat % 2 ^ 11 := by
    rw [BitVec.toNat_and, BitVec.toNat_ofInt, h127, Nat.and_two_pow_sub_one_eq_mod]
  show IntKind.i64.wrap ((BitVec.ofInt 64 n &&& BitVec.ofInt 64 2047).toNat : Nat) = n % 2048
  rw [key, IntKind.wrap_i64]
  omega

set_option maxRecDepth 100000 in
theorem and_mant {x : Nat} (h : x < Fl.S) : x &&& (18446744073709551615 - 9218868437227405312) = x % Fl.B := by
  have h1 : x &&& 9227875636482146303 = (x &&& 9227875636482146303) % 2 ^ 63 := by
    rw [Nat.mod_eq_of_lt]
    exact Nat.lt_of_le_of_lt Nat.and_le_left h
  have h2 := Nat.and_mod_two_pow (a := x) (b := 9227875636482146303) (n := 63)
  have h3 := Nat.and_two_pow_sub_one_eq_mod x 52
  show x &&& 9227875636482146303 = x % Fl.B
  rw [h1, h2, Nat.mod_eq_of_lt (show x < 2 ^ 63 from h), show 9227875636482146303 % 2 ^ 63 = 2 ^ 52 - 1 from rfl, h3, Fl.B_eq]
set_option maxRecDepth 100000 in
theorem ldexp_bits {x e : Nat} (h : Pos x) (he : x / 4503599627370496 + e ≤ 2040) :
    bits .or .u64 (bits .andNot .u64 (x : Int) 9218868437227405312) (((e : Int) + ((x : Int) / 4503599627370496 % 2048 - 1023) + 1023) * 4503599627370496) = ((x + e * Fl.B : Nat) : Int) := by
  have hS := h.s
  have e2 : Fl.S = 9223372036854775808 := rfl
  have e1 : Fl.B = 4503599627370496 := rfl
  rw [u64_andNot _ _ (by omega) (by omega) (by decide) (by decide), Int.toNat_natCast, show (9218868437227405312 : Int).toNat = 9218868437227405312 from rfl, and_mant hS]
  have e3 : (((e : Int) + ((x : Int) / 4503599627370496 % 2048 - 1023) + 1023) * 4503599627370496) = (((x / 4503599627370496 + e) * 2 ^ 52 : Nat) : Int) := by
    have : (x : Int) / 4503599627370496 % 2048 = ((x / 4503599627370496 : Nat) : Int) := by omega
    rw [this]
    omega
  rw [e3, or_join (x := x % Fl.B) (y := x / 4503599627370496 + e) 52 (Nat.mod_lt x Fl.B_pos) (by rw [e1]; omega)]
  rw [e1]
  omega
set_option maxRecDepth 100000 in
theorem pos_shift {x e : Nat} (h : Pos x) (he : x / 4503599627370496 + e ≤ 2040) : Pos (x + e * Fl.B) := by
  have e1 : Fl.B = 4503599627370496 := rfl
  have := h.lo
  exact ⟨by omega, by rw [e1]; omega⟩
set_option maxRecDepth 100000 in
theorem mul_one' {y : Nat} (h : Pos y) : floatBits .mul .f64 4607182418800017408 y = some y := by
  rw [Fl.fb_mul, Fl.mul_comm]
  refine Fl.mul_one ?_ (by have := h.s; omega)
  rw [h.rg]; exact h.hi

set_option maxRecDepth 100000 in
set_option maxRecDepth 100000 in
set_option maxHeartbeats 1000000 in
theorem ldexp_pos (w : World) (x e : Nat) (h : Pos x) (he : x / 4503599627370496 + e ≤ 2040) :
    Calls Tryz.prog 82 #[.float .f64 x, .int .i64 (e : Int)] w fun r w' => r = .returned (.float .f64 (x + e * Fl.B)) ∧ w = w' := by
  have c1 := call_frombits
  have c2 := call_bits
  have hS := h.s
  have h1 := h.lo
  have h2 := h.hi
  have o0 := flt_eq h.nan zero_nan
  rw [h.si, zero_si, decide_eq_false (by omega)] at o0
  have hn := h.nan
  have a1 := i64_and2047
  have hbt := ldexp_bits h he
  have hmul := fun w => run_float_arith (P := Tryz.prog) w .mul 60 .f64 _ _ _ (mul_one' (pos_shift h he))
  have hto : ∀ n : Nat, ((n : Int)).toNat = n := Int.toNat_natCast
  go_enter Tryz.func82, Tryz.ntmps82
  go_wp2_with fail
  refine (isInf_pos _ _ h).mono ?_
  rintro r w' ⟨rfl, rfl⟩
  go_wp2_with fail
  refine (isNaN_any _ _).mono ?_
  rintro r w' ⟨rfl, rfl⟩
  go_wp2_with fail
  refine (normalize_pos _ _ h).mono ?_
  rintro r w' ⟨rfl, rfl⟩
  generalize hy : x + e * Fl.B = y at *
  go_wp2
  go_ret
  rw [hy]
  exact ⟨rfl, rfl⟩

set_option maxRecDepth 100000 in
set_option maxHeartbeats 1000000 in
theorem Ldexp_pos (w : World) (x e : Nat) (h : Pos x) (he : x / 4503599627370496 + e ≤ 2040) :
    Calls Tryz.prog 59 #[.float .f64 x, .int .i64 (e : Int)] w fun r w' => r = .returned (.float .f64 (x + e * Fl.B)) ∧ w = w' := by
  go_enter Tryz.func59, Tryz.ntmps59
  go_wp2_with (go_at_call 82; refine (ldexp_pos _ _ _ h he).mono ?_; rintro r w' ⟨rfl, rfl⟩)
  go_ret
  exact ⟨rfl, rfl⟩
end Go.Proofs.YtompimbeaeinbaaGreat
