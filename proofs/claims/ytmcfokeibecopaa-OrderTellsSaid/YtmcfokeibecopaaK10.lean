/-
  CONTRACTS OF bits.LeadingZeros32, real.lowest, real.allZero, math.Ldexp.
  CONTRACTS OF real.lowest, math.Ldexp.
  CONTRACT OF math.Ldexp, where a power of two is put to a float from one on.
  CONTRACT OF real.nearest, real.Of.
-/
import Derived.Test.YtmcfokeibecopaaK9
import Derived.Lib.BitFns
import Derived.Laws.Bits128
namespace Go.Proofs.Ytmcfokeibecopaa
open Go.RowKit

set_option maxRecDepth 100000 in
theorem bitLen_log2 {x : Nat} (h0 : x ≠ 0) (h : x < 2 ^ 64) : Lib.bitLen x = x.log2 + 1 := by
  obtain ⟨l1, l2⟩ := Fl.log2_pos h0
  rw [Lib.bitLen_shift x.log2 x l1 h]
  have : x / 2 ^ x.log2 = 1 := by
    rw [Nat.pow_succ] at l2
    have hp := Nat.two_pow_pos x.log2
    apply Nat.le_antisymm
    · have : x / 2 ^ x.log2 < 2 := (Nat.div_lt_iff_lt_mul hp).2 (by omega)
      omega
    · exact (Nat.le_div_iff_mul_le hp).2 (by omega)
  rw [this]
  have : Lib.bitLen 1 = 1 := by decide
  omega

end Go.Proofs.Ytmcfokeibecopaa

namespace Go.Proofs.Ytmcfokeibecopaa
open Go.RowKit

set_option maxRecDepth 100000 in
/-- Bits that lie apart. -/
theorem or_apart {x y : Nat} (k : Nat) (hx : x < 2 ^ k) : x ||| y * 2 ^ k = x + y * 2 ^ k := by
  rw [Nat.or_comm, Nat.mul_comm y, ← Nat.two_pow_add_eq_or_of_lt hx, Nat.add_comm]
set_option maxRecDepth 100000 in
theorem or_join {x y : Nat} (k : Nat) (hx : x < 2 ^ k) (h64 : x + y * 2 ^ k < 18446744073709551616) : bits .or .u64 (x : Int) ((y * 2 ^ k : Nat) : Int) = ((x + y * 2 ^ k : Nat) : Int) := by
  rw [u64_or _ _ (by omega) (by omega) (by omega) (by omega), Int.toNat_natCast, Int.toNat_natCast, or_apart k hx]

end Go.Proofs.Ytmcfokeibecopaa

namespace Go.Proofs.Ytmcfokeibecopaa
open Go.RowKit

namespace Fl
open Ieee
def ONE : Nat := 4607182418800017408
set_option maxRecDepth 100000 in
theorem one_rg : rg ONE = 1023 * B := by decide
set_option maxRecDepth 100000 in
theorem one_ng : ng ONE = false := by decide
set_option maxRecDepth 100000 in
theorem one_fin : rg ONE < INF := by decide
set_option maxRecDepth 100000 in
theorem one_val : val (rg ONE) = 2 ^ 0 * U := by
  rw [one_rg]; exact val_binade 1023 0 (by omega) (by rw [K_eq])
set_option maxRecDepth 100000 in
theorem one_mt : mt (rg ONE) = B := by decide
set_option maxRecDepth 100000 in
theorem one_pl : pl (rg ONE) = 1022 := by decide
set_option maxRecDepth 100000 in
/-- a * 1 -/
theorem mul_one {a : Nat} (ha : rg a < INF) (h : a < 2 * S) : double.mul a ONE = some a := by
  rw [mul_pow ha one_fin one_val, one_ng, Nat.pow_zero, Nat.mul_one, R_val ha, Bool.xor_false, word_eq h]
set_option maxRecDepth 100000 in
theorem product_comm (x y : Datum) : x.product y = y.product x := by
  cases x <;> cases y <;> simp [Datum.product, Bool.xor_comm, Nat.mul_comm, Int.add_comm]
set_option maxRecDepth 100000 in
theorem mul_comm (a b : Nat) : double.mul a b = double.mul b a := by
  unfold Format.mul; rw [product_comm]
end Fl

set_option maxRecDepth 100000 in
theorem max_si : Fl.si 9218868437227405311 = 9218868437227405311 := by decide
set_option maxRecDepth 100000 in
theorem max_nan : Fl.nanB 9218868437227405311 = false := by decide
set_option maxRecDepth 100000 in
theorem sub_si : Fl.si 4503599627370496 = 4503599627370496 := by decide
set_option maxRecDepth 100000 in
theorem sub_nan : Fl.nanB 4503599627370496 = false := by decide
set_option maxRecDepth 100000 in
theorem zero_si : Fl.si 0 = 0 := by decide
set_option maxRecDepth 100000 in
theorem zero_nan : Fl.nanB 0 = false := by decide

/-- A float from one on, below an infinity. -/
structure Pos (x : Nat) : Prop where
  lo : 4607182418800017408 ≤ x
  hi : x < 9218868437227405312
set_option maxRecDepth 100000 in
theorem Pos.s {x : Nat} (h : Pos x) : x < Fl.S := by have : Fl.S = 9223372036854775808 := rfl
                                                     have := h.hi; omega
set_option maxRecDepth 100000 in
theorem Pos.rg {x : Nat} (h : Pos x) : Fl.rg x = x := Fl.pos_rg h.s
set_option maxRecDepth 100000 in
theorem Pos.ng {x : Nat} (h : Pos x) : Fl.ng x = false := Fl.pos_ng h.s
set_option maxRecDepth 100000 in
theorem Pos.si {x : Nat} (h : Pos x) : Fl.si x = (x : Int) := by unfold Fl.si Fl.sgnd; rw [h.ng, h.rg]; rfl
set_option maxRecDepth 100000 in
theorem Pos.nan {x : Nat} (h : Pos x) : Fl.nanB x = false := by
  unfold Fl.nanB; rw [h.rg]; exact decide_eq_false (by have : Fl.INF = 9218868437227405312 := rfl
                                                       have := h.hi; omega)

set_option maxRecDepth 100000 in
set_option maxHeartbeats 1000000 in
theorem isInf_pos (w : World) (x : Nat) (h : Pos x) :
    Calls Try.prog 96 #[.float .f64 x, .int .i64 0] w fun e w' => e = .returned (.bool false) ∧ w = w' := by
  have hS := h.s
  have o1 := flt_gt h.nan max_nan
  rw [h.si, max_si, decide_eq_false (by have := h.hi; omega)] at o1
  have hr := Lib.hid h.rg
  go_enter Try.func96, Try.ntmps96
  go_wp2_with fail
  refine (abs_any _ _ (by omega)).mono ?_
  rintro e w' ⟨rfl, rfl⟩
  rw [hr.out]
  go_wp2
  go_ret
  exact ⟨rfl, rfl⟩

set_option maxRecDepth 100000 in
theorem i64_and2047 (n : Int) : bits .and .i64 n 2047 = n % 2048 := by
  have h127 : (BitVec.ofInt 64 2047).toNat = 2 ^ 11 - 1 := by decide
  have key : (BitVec.ofInt 64 n &&& BitVec.ofInt 64 2047).toNat = (n % ((2 ^ 64 : Nat) : Int)).toNat % 2 ^ 11 := by
    rw [BitVec.toNat_and, BitVec.toNat_ofInt, h127, Nat.and_two_pow_sub_one_eq_mod]
  show IntKind.i64.wrap ((BitVec.ofInt 64 n &&& BitVec.ofInt 64 2047).toNat : Nat) = n % 2048
  rw [key, IntKind.wrap_i64]
  omega

set_option maxRecDepth 100000 in
theorem and_mant {x : Nat} (h : x < Fl.S) : x &&& (18446744073709551615 - 9218868437227405312) = x % Fl.B := by
  have h1 : x &&& 9227875636482146303 = (x &&& 9227875636482146303) % 2 ^ 63 := by
    rw [Nat.mod_eq_of_lt]
    exact Nat.lt_of_le_of_lt Nat.and_le_left h
  have h2 := Nat.and_mod_two_pow (a := x) (b := 9227875636482146303) (n := 63)
  have h3 := Nat.and_two_pow_sub_one_eq_mod x 52
  show x &&& 9227875636482146303 = x % Fl.B
  rw [h1, h2, Nat.mod_eq_of_lt (show x < 2 ^ 63 from h), show 9227875636482146303 % 2 ^ 63 = 2 ^ 52 - 1 from rfl, h3, Fl.B_eq]
set_option maxRecDepth 100000 in
theorem ldexp_bits {x e : Nat} (h : Pos x) (he : x / 4503599627370496 + e ≤ 2040) :
    bits .or .u64 (bits .andNot .u64 (x : Int) 9218868437227405312) (((e : Int) + ((x : Int) / 4503599627370496 % 2048 - 1023) + 1023) * 4503599627370496) = ((x + e * Fl.B : Nat) : Int) := by
  have hS := h.s
  have e2 : Fl.S = 9223372036854775808 := rfl
  have e1 : Fl.B = 4503599627370496 := rfl
  rw [u64_andNot _ _ (by omega) (by omega) (by decide) (by decide), Int.toNat_natCast, show (9218868437227405312 : Int).toNat = 9218868437227405312 from rfl, and_mant hS]
  have e3 : (((e : Int) + ((x : Int) / 4503599627370496 % 2048 - 1023) + 1023) * 4503599627370496) = (((x / 4503599627370496 + e) * 2 ^ 52 : Nat) : Int) := by
    have : (x : Int) / 4503599627370496 % 2048 = ((x / 4503599627370496 : Nat) : Int) := by omega
    rw [this]
    omega
  rw [e3, or_join (x := x % Fl.B) (y := x / 4503599627370496 + e) 52 (Nat.mod_lt x Fl.B_pos) (by rw [e1]; omega)]
  rw [e1]
  omega
set_option maxRecDepth 100000 in
theorem pos_shift {x e : Nat} (h : Pos x) (he : x / 4503599627370496 + e ≤ 2040) : Pos (x + e * Fl.B) := by
  have e1 : Fl.B = 4503599627370496 := rfl
  have := h.lo
  exact ⟨by omega, by rw [e1]; omega⟩
set_option maxRecDepth 100000 in
theorem mul_one' {y : Nat} (h : Pos y) : floatBits .mul .f64 4607182418800017408 y = some y := by
  rw [Fl.fb_mul, Fl.mul_comm]
  refine Fl.mul_one ?_ (by have := h.s; omega)
  rw [h.rg]; exact h.hi

end Go.Proofs.Ytmcfokeibecopaa

namespace Go.Proofs.Ytmcfokeibecopaa
open Go.RowKit

set_option maxRecDepth 100000 in
theorem floatOf_nat (v : Nat) : floatOfInt .f64 (v : Int) = Fl.ofN v := by
  show Ieee.double.nearest (decide ((v : Int) < 0)) ((v : Int)).natAbs 0 = _
  rw [decide_eq_false (by omega), Int.natAbs_natCast]
  have := Fl.near0 false v 1074
  rw [show (-1074 + ((1074 : Nat) : Int)) = 0 by omega] at this
  rw [this, Fl.word_false, Fl.ofN_def, Fl.U_def, Fl.K_eq]

set_option maxRecDepth 100000 in
theorem Lim.drop {w : World} {n c : Nat} {l : List Nat} {b o : Nat} (h : Lim w (some ⟨b, o, none⟩) n c l) (k : Nat) (hk : k ≤ n) : Lim w (some ⟨b, o + k, none⟩) (n - k) (c - k) (l.drop k) := by
  refine ⟨by rw [List.length_drop, h.1], Nat.sub_le_sub_right h.2.1 k, fun x hx => h.2.2.1 x (List.mem_of_mem_drop hx), fun hn => ?_⟩
  obtain ⟨b', o', e, hlt, hc⟩ := h.2.2.2 (by omega)
  injection e with e
  injection e with e1 e2
  subst e1 e2
  refine ⟨b, o + k, rfl, hlt, fun j hj => ?_⟩
  rw [Nat.add_assoc, hc (k + j) (by omega)]
  simp [Lm.lg]

namespace Fl
set_option maxRecDepth 100000 in
theorem log2_eq {q k : Nat} (h1 : 2 ^ k ≤ q) (h2 : q < 2 ^ (k + 1)) : q.log2 = k := by
  have hp := Nat.two_pow_pos k
  have h0 : q ≠ 0 := by omega
  have a1 := (Nat.log2_lt h0).2 h2
  have a2 := (Nat.le_log2 h0).2 h1
  omega
set_option maxRecDepth 100000 in
/-- The highest 64 bits, and what lies below them. -/
theorem near_num {V lo m hi d j : Nat} (hV : V = lo + 2 ^ (32 * j) * (m + 2 ^ 32 * hi)) (hlo : lo < 2 ^ (32 * j)) (hm : m < 2 ^ 32) (h1 : 2 ^ (63 - d) ≤ hi) (h2 : hi < 2 ^ (64 - d)) (hd : d ≤ 31) (hj : j ≤ 5) :
    (m * 2 ^ d % 2 ^ 32 = 0 → lo = 0 → ofN V = ofN (hi * 2 ^ d + m * 2 ^ d / 2 ^ 32) + (32 * (j + 1) - d) * B) ∧
    ((m * 2 ^ d % 2 ^ 32 ≠ 0 ∨ lo ≠ 0) → ofN V = ofN ((hi * 2 ^ d + m * 2 ^ d / 2 ^ 32) / 2 * 2 + 1) + (32 * (j + 1) - d) * B) ∧
    2 ^ 63 ≤ hi * 2 ^ d + m * 2 ^ d / 2 ^ 32 ∧ hi * 2 ^ d + m * 2 ^ d / 2 ^ 32 < 2 ^ 64 := by
  have e32 : 2 ^ 32 = 2 ^ (32 - d) * 2 ^ d := by rw [← Nat.pow_add]; congr 1; omega
  have hD := Nat.two_pow_pos d
  have hP := Nat.two_pow_pos (32 - d)
  have e1 : m * 2 ^ d / 2 ^ 32 = m / 2 ^ (32 - d) := by rw [e32, Nat.mul_div_mul_right _ _ hD]
  have e2 : m * 2 ^ d % 2 ^ 32 = m % 2 ^ (32 - d) * 2 ^ d := by rw [e32, Nat.mul_mod_mul_right]
  rw [e1, e2]
  have hx : m / 2 ^ (32 - d) < 2 ^ d := by rw [Nat.div_lt_iff_lt_mul hP, Nat.mul_comm, ← e32]; exact hm
  have hq1 : 2 ^ 63 ≤ hi * 2 ^ d + m / 2 ^ (32 - d) := by
    have : 2 ^ (63 - d) * 2 ^ d = 2 ^ 63 := by rw [← Nat.pow_add]; congr 1; omega
    have := Nat.mul_le_mul_right (2 ^ d) h1
    omega
  have hq2 : hi * 2 ^ d + m / 2 ^ (32 - d) < 2 ^ 64 := by
    have a1 : 2 ^ (64 - d) * 2 ^ d = 2 ^ 64 := by rw [← Nat.pow_add]; congr 1; omega
    have a2 := Nat.mul_le_mul_right (2 ^ d) (Nat.succ_le_of_lt h2)
    rw [Nat.succ_mul] at a2
    omega
  have hlog : (hi * 2 ^ d + m / 2 ^ (32 - d)).log2 = 63 := log2_eq hq1 hq2
  have hlog' : ((hi * 2 ^ d + m / 2 ^ (32 - d)) / 2 * 2 + 1).log2 = 63 := log2_eq (by omega) (by omega)
  have hk : 2 ^ (32 * (j + 1) - d) = 2 ^ (32 * j) * 2 ^ (32 - d) := by rw [← Nat.pow_add]; congr 1; omega
  have hVq : V = (hi * 2 ^ d + m / 2 ^ (32 - d)) * 2 ^ (32 * (j + 1) - d) + (2 ^ (32 * j) * (m % 2 ^ (32 - d)) + lo) := by
    have hm' := Nat.div_add_mod m (2 ^ (32 - d))
    rw [hV, hk]
    have a1 : m + 2 ^ 32 * hi = 2 ^ (32 - d) * (hi * 2 ^ d + m / 2 ^ (32 - d)) + m % 2 ^ (32 - d) := by
      rw [Nat.mul_add, e32, ← Nat.mul_assoc, Nat.mul_right_comm]
      omega
    rw [a1, Nat.mul_add, ← Nat.mul_assoc, Nat.mul_comm (2 ^ (32 * j) * 2 ^ (32 - d))]
    omega
  have hr : 2 ^ (32 * j) * (m % 2 ^ (32 - d)) + lo < 2 ^ (32 * (j + 1) - d) := by
    rw [hk]
    have a1 := Nat.mod_lt m hP
    have a2 := Nat.mul_le_mul_left (2 ^ (32 * j)) (Nat.succ_le_of_lt a1)
    rw [Nat.mul_succ] at a2
    omega
  have hB := Nat.two_pow_pos (32 * j)
  generalize hi * 2 ^ d + m / 2 ^ (32 - d) = q at *
  generalize hrr : 2 ^ (32 * j) * (m % 2 ^ (32 - d)) + lo = r at *
  refine ⟨fun a b => ?_, fun a => ?_, hq1, hq2⟩
  · have a' : m % 2 ^ (32 - d) = 0 := by
      rcases Nat.mul_eq_zero.1 a with a | a
      · exact a
      · omega
    have r0 : r = 0 := by rw [← hrr, a', b, Nat.mul_zero]
    rw [hVq, r0, Nat.add_zero, ofN_mul (by omega) (by omega)]
  · have r0 : 0 < r := by
      rw [← hrr]
      rcases a with a | a
      · have : 0 < m % 2 ^ (32 - d) := by
          rcases Nat.eq_zero_or_pos (m % 2 ^ (32 - d)) with h | h
          · rw [h, Nat.zero_mul] at a; exact absurd rfl a
          · exact h
        have := Nat.mul_pos hB this
        omega
      · omega
    rw [hVq, sticky (by omega) hr r0 (by omega), ofN_mul (by omega) (by omega)]
set_option maxRecDepth 100000 in
/-- A float of 64 bits lies not beyond. -/
theorem ofN_64 {q : Nat} (h : q < 2 ^ 64) : ofN q ≤ 1088 * B := by
  by_cases h0 : q = 0
  · subst h0; rw [ofN_zero]; exact Nat.zero_le _
  have hl : q.log2 ≤ 63 := by
    have := (Nat.log2_lt h0).2 h
    omega
  have hub : rne (q * U) (q.log2 + 1022) ≤ 2 * B := by
    have h1 : q * U / 2 ^ (q.log2 + 1022) < 2 * B := by
      rw [Nat.div_lt_iff_lt_mul (Nat.two_pow_pos _), ← two53, ← Nat.pow_add, U_def, show 53 + (q.log2 + 1022) = q.log2 + 1 + K by have := K_eq; omega, Nat.pow_add]
      exact Nat.mul_lt_mul_of_pos_right (log2_pos h0).2 (Nat.two_pow_pos _)
    unfold rne
    split <;> omega
  unfold ofN R
  rw [U_log2 _ h0, show max (q.log2 + 1074 - 52) 0 = q.log2 + 1022 by omega, Nat.sub_zero]
  have : (q.log2 + 1022) * B ≤ 1085 * B := Nat.mul_le_mul_right _ (by omega)
  omega
end Fl
set_option maxRecDepth 100000 in
theorem pos_of {q : Nat} (h0 : q ≠ 0) (h : q < 2 ^ 64) : Pos (Fl.ofN q) ∧ Fl.ofN q / 4503599627370496 ≤ 1088 := by
  have h1 := Fl.ofN_pos (N := q) (by omega)
  have h2 := Fl.ofN_64 h
  have e : Fl.B = 4503599627370496 := rfl
  exact ⟨⟨by omega, by omega⟩, by omega⟩
set_option maxRecDepth 100000 in
theorem wrap_shl {m d : Nat} (h : m * 2 ^ d < 18446744073709551616) : IntKind.u64.wrap ((m : Int) * 2 ^ d) = ((m * 2 ^ d : Nat) : Int) := by
  rw [IntKind.wrap_u64]
  have : (m : Int) * 2 ^ d = ((m * 2 ^ d : Nat) : Int) := by push_cast; rfl
  rw [this]
  omega
set_option maxRecDepth 100000 in
theorem or_join' {x y : Nat} (k : Nat) (hx : x < 2 ^ k) (h64 : y * 2 ^ k + x < 18446744073709551616) : bits .or .u64 ((y * 2 ^ k : Nat) : Int) (x : Int) = ((y * 2 ^ k + x : Nat) : Int) := by
  rw [u64_or _ _ (by omega) (by omega) (by omega) (by omega), Int.toNat_natCast, Int.toNat_natCast, Nat.or_comm, or_apart k hx, Nat.add_comm]
set_option maxRecDepth 100000 in
theorem or_odd {q : Nat} (h : q < 18446744073709551616) : bits .or .u64 (q : Int) 1 = ((q / 2 * 2 + 1 : Nat) : Int) := by
  rw [u64_or _ _ (by omega) (by omega) (by omega) (by omega), Int.toNat_natCast, show (1 : Int).toNat = 1 from rfl]
  have e1 : (q ||| 1) / 2 ^ 1 = q / 2 := by
    rw [Nat.or_div_two_pow]; simp
  have e2 : (q ||| 1) % 2 ^ 1 = 1 := by
    rw [Nat.or_mod_two_pow]
    rcases Nat.mod_two_eq_zero_or_one q with h | h <;> simp [h]
  have := Nat.div_add_mod (q ||| 1) (2 ^ 1)
  rw [e1, e2] at this
  omega
set_option maxRecDepth 100000 in
/-- Limbs in three parts. -/
theorem val_parts {l : List Nat} {n : Nat} (hl : l.length = n) (hn : 3 ≤ n) : Lm.val l = Lm.val (l.take (n - 3)) + 2 ^ (32 * (n - 3)) * (Lm.lg l (n - 3) + 2 ^ 32 * Lm.val (l.drop (n - 2))) := by
  have h1 := Lm.val_append (l.take (n - 2)) (l.drop (n - 2))
  rw [List.take_append_drop] at h1
  have h2 := Lm.val_take_succ l (n - 3)
  rw [show n - 3 + 1 = n - 2 by omega] at h2
  have h3 : (l.take (n - 2)).length = n - 2 := by rw [List.length_take]; omega
  have e1 : 4294967296 ^ (n - 3) = 2 ^ (32 * (n - 3)) := by rw [Nat.pow_mul]
  have e2 : 4294967296 ^ (n - 2) = 2 ^ (32 * (n - 3)) * 2 ^ 32 := by rw [← Nat.pow_add, show 32 * (n - 3) + 32 = 32 * (n - 2) by omega, Nat.pow_mul]
  rw [h1, h2, h3, e1, e2, Nat.mul_add, Nat.mul_assoc, Nat.add_assoc]
set_option maxRecDepth 100000 in
theorem val_top2 {l : List Nat} {n : Nat} (hs : Lm.Small l) (hl : l.length = n) (hn : 3 ≤ n) (ht : Lm.lg l (n - 1) ≠ 0) :
    2 ^ (32 + (Lm.lg l (n - 1)).log2) ≤ Lm.val (l.drop (n - 2)) ∧ Lm.val (l.drop (n - 2)) < 2 ^ (32 + (Lm.lg l (n - 1)).log2 + 1) := by
  have e0 : l.drop (n - 2) = [Lm.lg l (n - 2), Lm.lg l (n - 1)] := by
    apply List.ext_getElem
    · rw [List.length_drop]; simp; omega
    · intro i h1 h2
      simp at h2
      have : i = 0 ∨ i = 1 := by omega
      rcases this with rfl | rfl
      · simp [Lm.lg]; rw [List.getElem?_eq_getElem (by omega)]; rfl
      · simp [Lm.lg, show n - 2 + 1 = n - 1 by omega]; rw [List.getElem?_eq_getElem (by omega)]; rfl
  have h1 := Lm.lg_lt hs (n - 2)
  obtain ⟨l1, l2⟩ := Fl.log2_pos ht
  rw [e0]
  simp only [Lm.val]
  rw [show 32 + (Lm.lg l (n - 1)).log2 + 1 = 32 + ((Lm.lg l (n - 1)).log2 + 1) by omega, Nat.pow_add, Nat.pow_add]
  omega

/-- real.Of. -/
noncomputable def ofR (g : Bool) (l : List Nat) : Nat := if mayB g l then Ieee.double.word g (Fl.ofN (Lm.val l)) else 0
set_option maxRecDepth 100000 in
theorem neg_flt {b : Nat} (h : b < Fl.S) : Op.negFloat .f64 b = Ieee.double.word true b := by
  show b ^^^ 9223372036854775808 = _
  rw [Fl.xor_S (by omega)]
  unfold Fl.flip
  rw [Fl.pos_ng h, Fl.pos_rg h]
  rfl

set_option maxRecDepth 100000 in
theorem run_neg_flt {P : Program} {b : Nat} (h : b < Fl.S) (w : World) : (Op.unary .neg (.float .f64 b)).run P w = .ok (.float .f64 (Ieee.double.word true b)) w := by
  rw [← neg_flt h]
  rfl

end Go.Proofs.Ytmcfokeibecopaa
