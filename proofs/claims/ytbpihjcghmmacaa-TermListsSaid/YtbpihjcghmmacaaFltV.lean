/-
  CONTRACTS OF THE REFERENCE's FUNCTIONS ON FLOATS; of real.Cmp; bits of signs.
-/
import Derived.Test.YtbpihjcghmmacaaFltW
import Derived.Laws.BitsAllLaws
namespace Go.Proofs.Ytbpihjcghmmacaa
open Go.RowKit

namespace Fl
open Ieee
theorem ng_eq (a : Nat) (h : a < 2 * S) : (a / S = 0 ∧ ng a = false) ∨ (a / S = 1 ∧ ng a = true) := by
  have hS : 0 < S := by decide
  have h2 : a / S < 2 := (Nat.div_lt_iff_lt_mul hS).2 (by omega)
  unfold ng
  generalize a / S = q at *
  have h3 : q = 0 ∨ q = 1 := by omega
  rcases h3 with rfl | rfl
  · exact Or.inl ⟨rfl, rfl⟩
  · exact Or.inr ⟨rfl, rfl⟩
theorem split_eq (a : Nat) (h : a < 2 * S) : a = (if ng a then S else 0) + rg a := by
  have h1 := Nat.div_add_mod a S
  unfold rg
  rcases ng_eq a h with ⟨h2, h3⟩ | ⟨h2, h3⟩
  · rw [h2] at h1; rw [h3]; simp; omega
  · rw [h2] at h1; rw [h3]; simp; omega
/-- The other sign. -/
def flip (a : Nat) : Nat := double.word (!ng a) (rg a)
theorem S_pow : S = 2 ^ 63 := by decide
theorem rg_lt (a : Nat) : rg a < S := Nat.mod_lt _ (by decide)
theorem xor_S {a : Nat} (h : a < 2 * S) : a ^^^ 9223372036854775808 = flip a := by
  have e1 : (a ^^^ S) % S = a % S := by
    have := Nat.xor_mod_two_pow (a := a) (b := S) (n := 63)
    rw [← S_pow, Nat.mod_self, Nat.xor_zero] at this
    exact this
  have e2 : (a ^^^ S) / S = a / S ^^^ 1 := by
    have := Nat.xor_div_two_pow (a := a) (b := S) (n := 63)
    rw [← S_pow, Nat.div_self (by decide)] at this
    exact this
  have h1 := Nat.div_add_mod (a ^^^ S) S
  show a ^^^ S = flip a
  rw [e1, e2] at h1
  rw [← h1]
  unfold flip Format.word rg
  rw [sw_eq]
  rcases ng_eq a h with ⟨h2, h3⟩ | ⟨h2, h3⟩
  · rw [h2, h3]; simp
  · rw [h2, h3]; simp
theorem flip_lt (a : Nat) : flip a < 2 * S := by
  have := rg_lt a
  unfold flip Format.word
  rw [sw_eq]
  split <;> omega
theorem flip_ng (a : Nat) : ng (flip a) = !ng a := word_ng (rg_lt a)
theorem flip_rg (a : Nat) : rg (flip a) = rg a := word_rg (rg_lt a)
theorem or_S {a : Nat} (h : a < 2 * S) : a ||| 9223372036854775808 = S + rg a := by
  have e1 : (a ||| S) % S = a % S := by
    have := Nat.or_mod_two_pow (a := a) (b := S) (n := 63)
    rw [← S_pow, Nat.mod_self, Nat.or_zero] at this
    exact this
  have e2 : (a ||| S) / S = a / S ||| 1 := by
    have := Nat.or_div_two_pow (a := a) (b := S) (n := 63)
    rw [← S_pow, Nat.div_self (by decide)] at this
    exact this
  have h1 := Nat.div_add_mod (a ||| S) S
  show a ||| S = S + rg a
  rw [e1, e2] at h1
  rw [← h1]
  unfold rg
  rcases ng_eq a h with ⟨h2, h3⟩ | ⟨h2, h3⟩
  · rw [h2]; simp
  · rw [h2]; simp
theorem andNot_S (a : Nat) : a &&& (18446744073709551615 - 9223372036854775808) = rg a := by
  have := Nat.and_two_pow_sub_one_eq_mod a 63
  rw [← S_pow] at this
  exact this
theorem not_eq {a : Nat} (h : a < 2 * S) : 18446744073709551615 ^^^ a = 18446744073709551615 - a := by
  have h' : a < 2 ^ 64 := h
  have e1 : (BitVec.allOnes 64 ^^^ BitVec.ofNat 64 a).toNat = 18446744073709551615 ^^^ a := by
    rw [BitVec.toNat_xor, BitVec.toNat_allOnes, BitVec.toNat_ofNat, Nat.mod_eq_of_lt h']
  have e2 : (~~~ (BitVec.ofNat 64 a)).toNat = 18446744073709551615 - a := by
    rw [BitVec.toNat_not, BitVec.toNat_ofNat, Nat.mod_eq_of_lt h']
  rw [← e1, ← e2, BitVec.not_def, BitVec.xor_comm]
end Fl

theorem bits_andNot {a : Int} (h : U64 a) : bits .andNot .u64 a 9223372036854775808 = (Fl.rg a.toNat : Nat) := by
  rw [u64_andNot a _ h.1 h.2 (by decide) (by decide)]
  exact congrArg (fun n : Nat => (n : Int)) (Fl.andNot_S a.toNat)
theorem bits_xor {a : Int} (h : U64 a) : bits .xor .u64 a 9223372036854775808 = (Fl.flip a.toNat : Nat) := by
  rw [u64_xor a _ h.1 h.2 (by decide) (by decide)]
  exact congrArg (fun n : Nat => (n : Int)) (Fl.xor_S h.nat)
theorem bits_or {a : Int} (h : U64 a) : bits .or .u64 a 9223372036854775808 = (Fl.S + Fl.rg a.toNat : Nat) := by
  rw [u64_or a _ h.1 h.2 (by decide) (by decide)]
  exact congrArg (fun n : Nat => (n : Int)) (Fl.or_S h.nat)
theorem bits_not {a : Int} (h : U64 a) : bits .xor .u64 IntKind.u64.max a = 18446744073709551615 - a := by
  rw [show IntKind.u64.max = 18446744073709551615 from rfl, u64_xor _ a (by decide) (by decide) h.1 h.2]
  have := Fl.not_eq h.nat
  rw [show (18446744073709551615 : Int).toNat = 18446744073709551615 from rfl, this]
  have h1 := h.1
  have h2 := h.2
  omega

set_option maxHeartbeats 400000 in
theorem refNan_any (w : World) (a : Int) (h : U64 a) :
    Calls Try.prog 67 #[.int .u64 a] w fun e w' => e = .returned (.bool (Fl.nanB a.toNat)) ∧ w = w' := by
  have fin := Lib.hid (bits_andNot h)
  go_enter Try.func67, Try.ntmps67
  go_wp2
  go_ret
  rw [fin.out]
  refine ⟨?_, rfl⟩
  have : decide ((9218868437227405312 : Int) < (Fl.rg a.toNat : Nat)) = Fl.nanB a.toNat := by
    unfold Fl.nanB
    have e : Fl.INF = 9218868437227405312 := rfl
    rw [decide_eq_decide, e]
    omega
  rw [← this]
  rfl

theorem wrap_neg {a : Nat} (h : a < 2 * Fl.S) : decide (wrap64 (a : Int) < 0) = Fl.ng a := by
  have e : Fl.S = 9223372036854775808 := rfl
  have h1 := Fl.split_eq a h
  have h2 := Fl.rg_lt a
  unfold wrap64
  cases hn : Fl.ng a
  · rw [hn] at h1; simp at h1; rw [decide_eq_false_iff_not]; omega
  · rw [hn] at h1; simp at h1; rw [decide_eq_true_iff]; omega

/-- The order of floats, as integers. -/
def keyZ (a : Nat) : Int := if Fl.nanB a then 9223372036854775807 else if Fl.ng a then -(Fl.rg a : Int) - 1 else (Fl.rg a : Int)
def cmpN (a b : Nat) : Int := if keyZ a < keyZ b then -1 else if keyZ b < keyZ a then 1 else 0
def cmpI (a b : Int) : Int := cmpN a.toNat b.toNat

set_option maxHeartbeats 400000 in
theorem refMayF_any (w : World) (a : Int) (h : U64 a) :
    Calls Try.prog 59 #[.int .u64 a] w fun e w' => e = .returned (.bool (cleanI a == a)) ∧ w = w' := by
  cases hb : Fl.nanB a.toNat with
  | true =>
    have fin : Hid (cleanI a = 9221120237041090561) := by unfold cleanI cleanN; rw [if_pos hb]; exact Lib.hid rfl
    go_enter Try.func59, Try.ntmps59
    go_wp2_with (go_at_call 67; refine (refNan_any _ _ h).mono ?_; rintro e w' ⟨rfl, rfl⟩)
    go_ret
    rw [fin.out]
    exact ⟨by simp [BEq.comm], rfl⟩
  | false =>
    have fin : Hid (cleanI a = a) := by unfold cleanI cleanN; rw [if_neg (by rw [hb]; decide)]; exact Lib.hid (Int.toNat_of_nonneg h.1)
    go_enter Try.func59, Try.ntmps59
    go_wp2_with (go_at_call 67; refine (refNan_any _ _ h).mono ?_; rintro e w' ⟨rfl, rfl⟩)
    go_ret
    rw [fin.out]
    exact ⟨by simp, rfl⟩


theorem key_pos {a : Int} (h : U64 a) (hg : Fl.ng a.toNat = false) : (a / 9223372036854775808 == 1) = false ∧ (Fl.rg a.toNat : Int) = a := by
  have e : Fl.S = 9223372036854775808 := rfl
  have h1 := Fl.split_eq _ h.nat
  have h2 := Fl.rg_lt a.toNat
  have h3 := h.1
  rw [hg] at h1
  simp at h1
  rw [beq_eq_false_iff_ne]
  omega
theorem key_neg {a : Int} (h : U64 a) (hg : Fl.ng a.toNat = true) : (a / 9223372036854775808 == 1) = true ∧ (Fl.rg a.toNat : Int) = a - 9223372036854775808 := by
  have e : Fl.S = 9223372036854775808 := rfl
  have h1 := Fl.split_eq _ h.nat
  have h2 := Fl.rg_lt a.toNat
  have h3 := h.1
  rw [hg] at h1
  simp at h1
  rw [beq_iff_eq]
  omega

/-- What the operators say of two floats that are no NaNs. -/
theorem flt_order {a b : Nat} (ha : Fl.nanB a = false) (hb : Fl.nanB b = false) : FloatKind.f64.format.order a b = some (compare (Fl.si a) (Fl.si b)) := by
  unfold Fl.nanB at ha hb
  have h1 := of_decide_eq_false ha
  have h2 := of_decide_eq_false hb
  show Ieee.double.order a b = _
  rw [Fl.order_any (by omega) (by omega)]
  congr 1
  have h3 := Fl.sv_lt_iff a b
  have h4 := Fl.sv_lt_iff b a
  generalize Fl.sv a = x at *
  generalize Fl.sv b = y at *
  generalize Fl.si a = u at *
  generalize Fl.si b = v at *
  rcases Int.lt_trichotomy u v with h | h | h
  · rw [Fl.cmp_lt h, Fl.cmp_lt (h3.2 h)]
  · rw [Fl.cmp_eq h, Fl.cmp_eq (by omega)]
  · rw [Fl.cmp_gt h, Fl.cmp_gt (h4.2 h)]
theorem flt_gt {a b : Nat} (ha : Fl.nanB a = false) (hb : Fl.nanB b = false) : (FloatKind.f64.format.order a b == some .gt) = decide (Fl.si b < Fl.si a) := by
  rw [flt_order ha hb, Fl.int_cmp]
  rcases Int.lt_trichotomy (Fl.si a) (Fl.si b) with h | h | h
  · rw [if_pos h, decide_eq_false (by omega)]; rfl
  · rw [if_neg (by omega), if_pos h, decide_eq_false (by omega)]; rfl
  · rw [if_neg (by omega), if_neg (by omega), decide_eq_true h]; rfl
theorem flt_lt {a b : Nat} (ha : Fl.nanB a = false) (hb : Fl.nanB b = false) : (FloatKind.f64.format.order a b == some .lt) = decide (Fl.si a < Fl.si b) := by
  rw [flt_order ha hb, Fl.int_cmp]
  rcases Int.lt_trichotomy (Fl.si a) (Fl.si b) with h | h | h
  · rw [if_pos h, decide_eq_true h]; rfl
  · rw [if_neg (by omega), if_pos h, decide_eq_false (by omega)]; rfl
  · rw [if_neg (by omega), if_neg (by omega), decide_eq_false (by omega)]; rfl
theorem flt_eq {a b : Nat} (ha : Fl.nanB a = false) (hb : Fl.nanB b = false) : (FloatKind.f64.format.order a b == some .eq) = decide (Fl.si a = Fl.si b) := by
  rw [flt_order ha hb, Fl.int_cmp]
  rcases Int.lt_trichotomy (Fl.si a) (Fl.si b) with h | h | h
  · rw [if_pos h, decide_eq_false (by omega)]; rfl
  · rw [if_neg (by omega), if_pos h, decide_eq_true h]; rfl
  · rw [if_neg (by omega), if_neg (by omega), decide_eq_false (by omega)]; rfl
theorem keyZ_num {a : Nat} (ha : Fl.nanB a = false) : keyZ a = Fl.si a - (if Fl.ng a then 1 else 0) := by
  unfold keyZ Fl.si Fl.sgnd
  rw [ha]
  cases Fl.ng a <;> simp
theorem keyZ_nan {a : Nat} (ha : Fl.nanB a = true) : keyZ a = 9223372036854775807 := if_pos ha
theorem keyZ_lt {a : Nat} (ha : Fl.nanB a = false) : keyZ a < 9223372036854775807 := by
  unfold keyZ
  rw [ha]
  unfold Fl.nanB at ha
  have := of_decide_eq_false ha
  have e : Fl.INF = 9218868437227405312 := rfl
  simp only [Bool.false_eq_true, if_false]
  split <;> omega

theorem key_mono {a b : Nat} (h : Fl.si a < Fl.si b) : Fl.si a - (if Fl.ng a then 1 else 0) < Fl.si b - (if Fl.ng b then 1 else 0) := by
  unfold Fl.si Fl.sgnd at h ⊢
  generalize Fl.rg a = x at *
  generalize Fl.rg b = y at *
  generalize Fl.ng a = g at *
  generalize Fl.ng b = g' at *
  cases g <;> cases g' <;> simp only [if_true, if_false, Bool.false_eq_true] at h ⊢ <;> omega

end Go.Proofs.Ytbpihjcghmmacaa
