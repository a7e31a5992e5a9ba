/-
  CONTRACTS OF PACKAGE real ON FLOATS: May, Clean, Add, Sub, Mul, Div, Cmp, and of the reference's.
  CONTRACTS OF THE REFERENCE's FUNCTIONS ON FLOATS; of real.Cmp; bits of signs.
  PACKAGE term: bounded; the reference's Blank.
-/
import Derived.Test.YtejmmjedognaaaaGreatMv17
import Derived.Test.YtejmmjedognaaaaGreatMv7
import Derived.WalkLawsBesides
import Derived.Laws.Externs
import Derived.Laws.BitsAllLaws
import Derived.Test.YtejmmjedognaaaaGreatMv9
namespace Go.Proofs.YtejmmjedognaaaaGreat
open Go.RowKit

def U64 (a : Int) : Prop := 0 ≤ a ∧ a < 18446744073709551616
set_option maxRecDepth 100000 in
theorem U64.nat {a : Int} (h : U64 a) : a.toNat < 2 * Fl.S := by
  have : Fl.S = 9223372036854775808 := rfl
  unfold U64 at h; omega
set_option maxRecDepth 100000 in
theorem U64.mk {n : Nat} (h : n < 2 * Fl.S) : U64 (n : Int) := by
  have : Fl.S = 9223372036854775808 := rfl
  unfold U64; omega

set_option maxRecDepth 100000 in
theorem call_frombits (a : Int) (w : World) : (callFunc 153 #[.int .u64 a]).run Tryz.prog w = .ok (.value (.float .f64 a.toNat)) w := by
  rw [run_callFunc_extern (e := Extern.MathFloatBits.float64frombits) Tryz.func153 (by kernel_rfl) (by kernel_rfl) (by kernel_rfl) (by kernel_rfl)]
  rfl
set_option maxRecDepth 100000 in
theorem order_self (a : Nat) : (FloatKind.f64.format.order a a != some .eq) = Fl.nanB a := Fl.order_self a

set_option maxRecDepth 100000 in
set_option maxHeartbeats 400000 in
theorem isNaN_any (w : World) (a : Nat) :
    Calls Tryz.prog 152 #[.float .f64 a] w fun e w' => e = .returned (.bool (Fl.nanB a)) ∧ w = w' := by
  have h := Lib.hid (order_self a)
  go_enter Tryz.func152, Tryz.ntmps152
  go_wp2
  go_ret
  rw [← h.out]
  exact ⟨rfl, rfl⟩

/-- Clean, of bits. -/
def cleanN (a : Nat) : Nat := if Fl.nanB a then Fl.NAN else a
def cleanI (a : Int) : Int := (cleanN a.toNat : Nat)

set_option maxRecDepth 100000 in
set_option maxHeartbeats 400000 in
theorem clean_any (w : World) (a : Int) (h : U64 a) :
    Calls Tryz.prog 144 #[.int .u64 a] w fun e w' => e = .returned (.int .u64 (cleanI a)) ∧ w = w' := by
  have c1 := call_frombits
  cases hb : Fl.nanB a.toNat with
  | true =>
    have fin : Hid (cleanI a = 9221120237041090561) := by unfold cleanI cleanN; rw [if_pos hb]; exact Lib.hid rfl
    go_enter Tryz.func144, Tryz.ntmps144
    go_wp2_with (go_at_call 152; refine (isNaN_any _ _).mono ?_; rintro e w' ⟨rfl, rfl⟩)
    go_ret
    rw [fin.out]
    exact ⟨rfl, rfl⟩
  | false =>
    have fin : Hid (cleanI a = a) := by unfold cleanI cleanN; rw [if_neg (by rw [hb]; decide)]; exact Lib.hid (Int.toNat_of_nonneg h.1)
    go_enter Tryz.func144, Tryz.ntmps144
    go_wp2_with (go_at_call 152; refine (isNaN_any _ _).mono ?_; rintro e w' ⟨rfl, rfl⟩)
    go_ret
    rw [fin.out]
    exact ⟨rfl, rfl⟩

set_option maxRecDepth 100000 in
theorem cleanN_lt {a : Nat} (h : a < 2 * Fl.S) : cleanN a < 2 * Fl.S := by
  unfold cleanN
  split
  · decide
  · exact h
set_option maxRecDepth 100000 in
theorem cleanI_u64 {a : Int} (h : U64 a) : U64 (cleanI a) := U64.mk (cleanN_lt h.nat)

set_option maxRecDepth 100000 in
set_option maxHeartbeats 400000 in
theorem may_flt (w : World) (a : Int) (h : U64 a) :
    Calls Tryz.prog 116 #[.int .u64 a] w fun e w' => e = .returned (.bool (cleanI a == a)) ∧ w = w' := by
  go_enter Tryz.func116, Tryz.ntmps116
  go_wp2_with (go_at_call 144; refine (clean_any _ _ h).mono ?_; rintro e w' ⟨rfl, rfl⟩)
  go_ret
  exact ⟨rfl, rfl⟩

/-- What an operation gives, clean. -/
def opN (op : BinOp) (a b : Nat) : Nat := (floatBits op .f64 a b).getD Fl.NAN
def opI (op : BinOp) (a b : Int) : Int := (opN op a.toNat b.toNat : Nat)
set_option maxRecDepth 100000 in
theorem opN_lt (op : BinOp) (a b : Nat) : opN op a b < 2 * Fl.S := by
  unfold opN
  cases h : floatBits op .f64 a b with
  | none => decide
  | some r =>
    have := floatBits_wf h
    simp [Lit.wf] at this
    have e : Fl.S = 9223372036854775808 := rfl
    simp only [Option.getD_some]; omega
set_option maxRecDepth 100000 in
theorem opI_u64 (op : BinOp) (a b : Int) : U64 (opI op a b) := U64.mk (opN_lt _ _ _)
set_option maxRecDepth 100000 in
theorem clean_some {op : BinOp} {a b r : Nat} (h : floatBits op .f64 a b = some r) : cleanN r = opN op a b := by
  unfold cleanN opN
  rw [Fl.floatBits_num h, h]
  rfl
set_option maxRecDepth 100000 in
theorem nan_cut (w : World) (x y : Nat) : Fl.nanB (Question.cut (.nanBits .f64 x y) (w.tape w.drawn (.nanBits .f64 x y))) = true ∧ Question.cut (.nanBits .f64 x y) (w.tape w.drawn (.nanBits .f64 x y)) < 2 * Fl.S := by
  generalize w.tape w.drawn (.nanBits .f64 x y) = t
  have e1 : Fl.S = 9223372036854775808 := rfl
  have e2 : Fl.INF = 9218868437227405312 := rfl
  have h1 : Question.cut (.nanBits .f64 x y) t = (t % 2) * 9223372036854775808 + 9218868437227405312 + 1 + (t / 2) % 4503599627370495 := rfl
  rw [h1]
  refine ⟨?_, by omega⟩
  unfold Fl.nanB Fl.rg
  rw [decide_eq_true_iff, e1, e2]
  have h2 : (t / 2) % 4503599627370495 < 4503599627370495 := Nat.mod_lt _ (by omega)
  generalize (t / 2) % 4503599627370495 = q at *
  rcases Nat.mod_two_eq_zero_or_one t with h3 | h3 <;> rw [h3] <;> omega
set_option maxRecDepth 100000 in
theorem clean_none {op : BinOp} {a b r : Nat} (h : floatBits op .f64 a b = none) (hr : Fl.nanB r = true) : cleanN r = opN op a b := by
  unfold cleanN opN
  rw [hr, h]
  rfl
set_option maxRecDepth 100000 in
/-- Invalid: the tape is asked. -/
theorem run_float_none {P : Program} (w : World) (op : BinOp) (t : TypeId) (x y : Nat) (hop : op = .add ∨ op = .sub ∨ op = .mul ∨ op = .quo) (h : floatBits op .f64 x y = none) :
    (binOp op t (.float .f64 x) (.float .f64 y)).run P w = .ok (.float .f64 (Question.cut (.nanBits .f64 x y) (w.tape w.drawn (.nanBits .f64 x y)))) w.drew := by
  unfold floatBits at h
  rcases hop with rfl | rfl | rfl | rfl <;> simp only at h <;> simp [binOp, Op.floatArith, h, Question.forced]


end Go.Proofs.YtejmmjedognaaaaGreat

namespace Go.Proofs.YtejmmjedognaaaaGreat
open Go.RowKit

namespace Fl
open Ieee
set_option maxRecDepth 100000 in
theorem ng_eq (a : Nat) (h : a < 2 * S) : (a / S = 0 ∧ ng a = false) ∨ (a / S = 1 ∧ ng a = true) := by
  have hS : 0 < S := by decide
  have h2 : a / S < 2 := (Nat.div_lt_iff_lt_mul hS).2 (by omega)
  unfold ng
  generalize a / S = q at *
  have h3 : q = 0 ∨ q = 1 := by omega
  rcases h3 with rfl | rfl
  · exact Or.inl ⟨rfl, rfl⟩
  · exact Or.inr ⟨rfl, rfl⟩
set_option maxRecDepth 100000 in
theorem split_eq (a : Nat) (h : a < 2 * S) : a = (if ng a then S else 0) + rg a := by
  have h1 := Nat.div_add_mod a S
  unfold rg
  rcases ng_eq a h with ⟨h2, h3⟩ | ⟨h2, h3⟩
  · rw [h2] at h1; rw [h3]; simp; omega
  · rw [h2] at h1; rw [h3]; simp; omega
/-- The other sign. -/
def flip (a : Nat) : Nat := double.word (!ng a) (rg a)
set_option maxRecDepth 100000 in
theorem S_pow : S = 2 ^ 63 := by decide
set_option maxRecDepth 100000 in
theorem rg_lt (a : Nat) : rg a < S := Nat.mod_lt _ (by decide)
set_option maxRecDepth 100000 in
theorem xor_S {a : Nat} (h : a < 2 * S) : a ^^^ 9223372036854775808 = flip a := by
  have e1 : (a ^^^ S) % S = a % S := by
    have := Nat.xor_mod_two_pow (a := a) (b := S) (n := 63)
    rw [← S_pow, Nat.mod_self, Nat.xor_zero] at this
    exact this
  have e2 : (a ^^^ S) / S = a / S ^^^ 1 := by
    have := Nat.xor_div_two_pow (a := a) (b := S) (n := 63)
    rw [← S_pow, Nat.div_self (by decide)] at this
    exact this
  have h1 := Nat.div_add_mod (a ^^^ S) S
  show a ^^^ S = flip a
  rw [e1, e2] at h1
  rw [← h1]
  unfold flip Format.word rg
  rw [sw_eq]
  rcases ng_eq a h with ⟨h2, h3⟩ | ⟨h2, h3⟩
  · rw [h2, h3]; simp
  · rw [h2, h3]; simp
set_option maxRecDepth 100000 in
theorem flip_lt (a : Nat) : flip a < 2 * S := by
  have := rg_lt a
  unfold flip Format.word
  rw [sw_eq]
  split <;> omega
set_option maxRecDepth 100000 in
theorem flip_ng (a : Nat) : ng (flip a) = !ng a := word_ng (rg_lt a)
set_option maxRecDepth 100000 in
theorem flip_rg (a : Nat) : rg (flip a) = rg a := word_rg (rg_lt a)
set_option maxRecDepth 100000 in
theorem or_S {a : Nat} (h : a < 2 * S) : a ||| 9223372036854775808 = S + rg a := by
  have e1 : (a ||| S) % S = a % S := by
    have := Nat.or_mod_two_pow (a := a) (b := S) (n := 63)
    rw [← S_pow, Nat.mod_self, Nat.or_zero] at this
    exact this
  have e2 : (a ||| S) / S = a / S ||| 1 := by
    have := Nat.or_div_two_pow (a := a) (b := S) (n := 63)
    rw [← S_pow, Nat.div_self (by decide)] at this
    exact this
  have h1 := Nat.div_add_mod (a ||| S) S
  show a ||| S = S + rg a
  rw [e1, e2] at h1
  rw [← h1]
  unfold rg
  rcases ng_eq a h with ⟨h2, h3⟩ | ⟨h2, h3⟩
  · rw [h2]; simp
  · rw [h2]; simp
set_option maxRecDepth 100000 in
theorem andNot_S (a : Nat) : a &&& (18446744073709551615 - 9223372036854775808) = rg a := by
  have := Nat.and_two_pow_sub_one_eq_mod a 63
  rw [← S_pow] at this
  exact this
set_option maxRecDepth 100000 in
theorem not_eq {a : Nat} (h : a < 2 * S) : 18446744073709551615 ^^^ a = 18446744073709551615 - a := by
  have h' : a < 2 ^ 64 := h
  have e1 : (BitVec.allOnes 64 ^^^ BitVec.ofNat 64 a).toNat = 18446744073709551615 ^^^ a := by
    rw [BitVec.toNat_xor, BitVec.toNat_allOnes, BitVec.toNat_ofNat, Nat.mod_eq_of_lt h']
  have e2 : (~~~ (BitVec.ofNat 64 a)).toNat = 18446744073709551615 - a := by
    rw [BitVec.toNat_not, BitVec.toNat_ofNat, Nat.mod_eq_of_lt h']
  rw [← e1, ← e2, BitVec.not_def, BitVec.xor_comm]
end Fl

set_option maxRecDepth 100000 in
theorem bits_andNot {a : Int} (h : U64 a) : bits .andNot .u64 a 9223372036854775808 = (Fl.rg a.toNat : Nat) := by
  rw [u64_andNot a _ h.1 h.2 (by decide) (by decide)]
  exact congrArg (fun n : Nat => (n : Int)) (Fl.andNot_S a.toNat)
set_option maxRecDepth 100000 in
theorem bits_xor {a : Int} (h : U64 a) : bits .xor .u64 a 9223372036854775808 = (Fl.flip a.toNat : Nat) := by
  rw [u64_xor a _ h.1 h.2 (by decide) (by decide)]
  exact congrArg (fun n : Nat => (n : Int)) (Fl.xor_S h.nat)
set_option maxRecDepth 100000 in
theorem bits_or {a : Int} (h : U64 a) : bits .or .u64 a 9223372036854775808 = (Fl.S + Fl.rg a.toNat : Nat) := by
  rw [u64_or a _ h.1 h.2 (by decide) (by decide)]
  exact congrArg (fun n : Nat => (n : Int)) (Fl.or_S h.nat)
set_option maxRecDepth 100000 in
theorem bits_not {a : Int} (h : U64 a) : bits .xor .u64 IntKind.u64.max a = 18446744073709551615 - a := by
  rw [show IntKind.u64.max = 18446744073709551615 from rfl, u64_xor _ a (by decide) (by decide) h.1 h.2]
  have := Fl.not_eq h.nat
  rw [show (18446744073709551615 : Int).toNat = 18446744073709551615 from rfl, this]
  have h1 := h.1
  have h2 := h.2
  omega

set_option maxRecDepth 100000 in
set_option maxHeartbeats 400000 in
theorem refNan_any (w : World) (a : Int) (h : U64 a) :
    Calls Tryz.prog 146 #[.int .u64 a] w fun e w' => e = .returned (.bool (Fl.nanB a.toNat)) ∧ w = w' := by
  have fin := Lib.hid (bits_andNot h)
  go_enter Tryz.func146, Tryz.ntmps146
  go_wp2
  go_ret
  rw [fin.out]
  refine ⟨?_, rfl⟩
  have : decide ((9218868437227405312 : Int) < (Fl.rg a.toNat : Nat)) = Fl.nanB a.toNat := by
    unfold Fl.nanB
    have e : Fl.INF = 9218868437227405312 := rfl
    rw [decide_eq_decide, e]
    omega
  rw [← this]
  rfl

set_option maxRecDepth 100000 in
theorem wrap_neg {a : Nat} (h : a < 2 * Fl.S) : decide (wrap64 (a : Int) < 0) = Fl.ng a := by
  have e : Fl.S = 9223372036854775808 := rfl
  have h1 := Fl.split_eq a h
  have h2 := Fl.rg_lt a
  unfold wrap64
  cases hn : Fl.ng a
  · rw [hn] at h1; simp at h1; rw [decide_eq_false_iff_not]; omega
  · rw [hn] at h1; simp at h1; rw [decide_eq_true_iff]; omega

/-- The order of floats, as integers. -/
def keyZ (a : Nat) : Int := if Fl.nanB a then 9223372036854775807 else if Fl.ng a then -(Fl.rg a : Int) - 1 else (Fl.rg a : Int)
def cmpN (a b : Nat) : Int := if keyZ a < keyZ b then -1 else if keyZ b < keyZ a then 1 else 0
def cmpI (a b : Int) : Int := cmpN a.toNat b.toNat

set_option maxRecDepth 100000 in
set_option maxHeartbeats 400000 in
theorem refMayF_any (w : World) (a : Int) (h : U64 a) :
    Calls Tryz.prog 126 #[.int .u64 a] w fun e w' => e = .returned (.bool (cleanI a == a)) ∧ w = w' := by
  cases hb : Fl.nanB a.toNat with
  | true =>
    have fin : Hid (cleanI a = 9221120237041090561) := by unfold cleanI cleanN; rw [if_pos hb]; exact Lib.hid rfl
    go_enter Tryz.func126, Tryz.ntmps126
    go_wp2_with (go_at_call 146; refine (refNan_any _ _ h).mono ?_; rintro e w' ⟨rfl, rfl⟩)
    go_ret
    rw [fin.out]
    exact ⟨by simp [BEq.comm], rfl⟩
  | false =>
    have fin : Hid (cleanI a = a) := by unfold cleanI cleanN; rw [if_neg (by rw [hb]; decide)]; exact Lib.hid (Int.toNat_of_nonneg h.1)
    go_enter Tryz.func126, Tryz.ntmps126
    go_wp2_with (go_at_call 146; refine (refNan_any _ _ h).mono ?_; rintro e w' ⟨rfl, rfl⟩)
    go_ret
    rw [fin.out]
    exact ⟨by simp, rfl⟩


set_option maxRecDepth 100000 in
theorem key_pos {a : Int} (h : U64 a) (hg : Fl.ng a.toNat = false) : (a / 9223372036854775808 == 1) = false ∧ (Fl.rg a.toNat : Int) = a := by
  have e : Fl.S = 9223372036854775808 := rfl
  have h1 := Fl.split_eq _ h.nat
  have h2 := Fl.rg_lt a.toNat
  have h3 := h.1
  rw [hg] at h1
  simp at h1
  rw [beq_eq_false_iff_ne]
  omega
set_option maxRecDepth 100000 in
theorem key_neg {a : Int} (h : U64 a) (hg : Fl.ng a.toNat = true) : (a / 9223372036854775808 == 1) = true ∧ (Fl.rg a.toNat : Int) = a - 9223372036854775808 := by
  have e : Fl.S = 9223372036854775808 := rfl
  have h1 := Fl.split_eq _ h.nat
  have h2 := Fl.rg_lt a.toNat
  have h3 := h.1
  rw [hg] at h1
  simp at h1
  rw [beq_iff_eq]
  omega

set_option maxRecDepth 100000 in
/-- What the operators say of two floats that are no NaNs. -/
theorem flt_order {a b : Nat} (ha : Fl.nanB a = false) (hb : Fl.nanB b = false) : FloatKind.f64.format.order a b = some (compare (Fl.si a) (Fl.si b)) := by
  unfold Fl.nanB at ha hb
  have h1 := of_decide_eq_false ha
  have h2 := of_decide_eq_false hb
  show Ieee.double.order a b = _
  rw [Fl.order_any (by omega) (by omega)]
  congr 1
  have h3 := Fl.sv_lt_iff a b
  have h4 := Fl.sv_lt_iff b a
  generalize Fl.sv a = x at *
  generalize Fl.sv b = y at *
  generalize Fl.si a = u at *
  generalize Fl.si b = v at *
  rcases Int.lt_trichotomy u v with h | h | h
  · rw [Fl.cmp_lt h, Fl.cmp_lt (h3.2 h)]
  · rw [Fl.cmp_eq h, Fl.cmp_eq (by omega)]
  · rw [Fl.cmp_gt h, Fl.cmp_gt (h4.2 h)]
set_option maxRecDepth 100000 in
theorem flt_gt {a b : Nat} (ha : Fl.nanB a = false) (hb : Fl.nanB b = false) : (FloatKind.f64.format.order a b == some .gt) = decide (Fl.si b < Fl.si a) := by
  rw [flt_order ha hb, Fl.int_cmp]
  rcases Int.lt_trichotomy (Fl.si a) (Fl.si b) with h | h | h
  · rw [if_pos h, decide_eq_false (by omega)]; rfl
  · rw [if_neg (by omega), if_pos h, decide_eq_false (by omega)]; rfl
  · rw [if_neg (by omega), if_neg (by omega), decide_eq_true h]; rfl
set_option maxRecDepth 100000 in
theorem flt_lt {a b : Nat} (ha : Fl.nanB a = false) (hb : Fl.nanB b = false) : (FloatKind.f64.format.order a b == some .lt) = decide (Fl.si a < Fl.si b) := by
  rw [flt_order ha hb, Fl.int_cmp]
  rcases Int.lt_trichotomy (Fl.si a) (Fl.si b) with h | h | h
  · rw [if_pos h, decide_eq_true h]; rfl
  · rw [if_neg (by omega), if_pos h, decide_eq_false (by omega)]; rfl
  · rw [if_neg (by omega), if_neg (by omega), decide_eq_false (by omega)]; rfl
set_option maxRecDepth 100000 in
theorem flt_eq {a b : Nat} (ha : Fl.nanB a = false) (hb : Fl.nanB b = false) : (FloatKind.f64.format.order a b == some .eq) = decide (Fl.si a = Fl.si b) := by
  rw [flt_order ha hb, Fl.int_cmp]
  rcases Int.lt_trichotomy (Fl.si a) (Fl.si b) with h | h | h
  · rw [if_pos h, decide_eq_false (by omega)]; rfl
  · rw [if_neg (by omega), if_pos h, decide_eq_true h]; rfl
  · rw [if_neg (by omega), if_neg (by omega), decide_eq_false (by omega)]; rfl
set_option maxRecDepth 100000 in
theorem keyZ_num {a : Nat} (ha : Fl.nanB a = false) : keyZ a = Fl.si a - (if Fl.ng a then 1 else 0) := by
  unfold keyZ Fl.si Fl.sgnd
  rw [ha]
  cases Fl.ng a <;> simp
set_option maxRecDepth 100000 in
theorem keyZ_nan {a : Nat} (ha : Fl.nanB a = true) : keyZ a = 9223372036854775807 := if_pos ha
set_option maxRecDepth 100000 in
theorem keyZ_lt {a : Nat} (ha : Fl.nanB a = false) : keyZ a < 9223372036854775807 := by
  unfold keyZ
  rw [ha]
  unfold Fl.nanB at ha
  have := of_decide_eq_false ha
  have e : Fl.INF = 9218868437227405312 := rfl
  simp only [Bool.false_eq_true, if_false]
  split <;> omega

set_option maxRecDepth 100000 in
theorem key_mono {a b : Nat} (h : Fl.si a < Fl.si b) : Fl.si a - (if Fl.ng a then 1 else 0) < Fl.si b - (if Fl.ng b then 1 else 0) := by
  unfold Fl.si Fl.sgnd at h ⊢
  generalize Fl.rg a = x at *
  generalize Fl.rg b = y at *
  generalize Fl.ng a = g at *
  generalize Fl.ng b = g' at *
  cases g <;> cases g' <;> simp only [if_true, if_false, Bool.false_eq_true] at h ⊢ <;> omega

end Go.Proofs.YtejmmjedognaaaaGreat

namespace Go.Proofs.YtejmmjedognaaaaGreat
open Go.RowKit

/-- Do the fields keep the bounds of their kind? -/
def Tm.boundB (t : Tm) : Bool :=
  if t.kind = 1 then decide (-1152921504606846976 ≤ t.num) && decide (t.num ≤ 1152921504606846975)
  else if t.kind = 2 then mayB t.neg t.mag && !smOk t.neg t.mag
  else if t.kind = 3 then cleanI t.bits == t.bits
  else if t.kind = 4 then decide (0 ≤ t.num) && decide (t.num ≤ 255)
  else if t.kind = 5 then decide (0 ≤ t.num) && decide (t.num ≤ 63)
  else if t.kind = 6 then decide (t.args.length ≤ 8)
  else if t.kind = 7 then true
  else if t.kind = 8 then decide (t.args.length = 2)
  else if t.kind = 9 then decide (t.bytes.size ≤ 400)
  else false

set_option maxRecDepth 100000 in
set_option maxHeartbeats 4000000 in
theorem bounded_any' (w : World) (k n : Int) (g : Bool) (A : Option Addr) (ln lc : Nat) (u : Int) (s : ByteArray) (B : Option Addr) (m d : Nat) (t : Tm) (h : TV w (TR.mk k n g A ln lc u s B m d) t) :
    Calls Tryz.prog 157 #[.agg #[.int .i64 k, .int .i64 n, .bool g, .slice A ln lc, .int .u64 u, .string s, .slice B m d]] w fun e w' => e = .returned (.bool t.boundB) ∧ Below w.heap.size w w' := by
  obtain ⟨R, hR⟩ : ∃ R, R = t.boundB := ⟨_, rfl⟩
  rw [← hR]
  have e1 : t.kind = k := h.kind
  have e2 : t.num = n := h.num
  have e3 : t.bits = u := h.bits
  have e4 : t.neg = g := h.neg
  have e5 : t.bytes = s := h.bytes
  have e6 : t.args.length = m := h.len
  unfold Tm.boundB at hR
  rw [e1, e2, e3, e4, e5, e6] at hR
  have hraw : Raw w A ln lc t.mag := ⟨h.flat.lim, h.flat.cap⟩
  have hu : U64 u := ⟨h.flat.u0, by have := h.flat.u1; simp only at this; omega⟩
  have hstr : s.size ≤ maxLen := h.flat.str
  have hmd : m ≤ d := h.flat.md
  have hdd : d ≤ maxLen := h.flat.dd
  have hb0 := (Below.refl w.heap.size w).alloc (Nat.le_refl _) (.cells #[.int .i64 k, .int .i64 n, .bool g, .slice A ln lc, .int .u64 u, .string s, .slice B m d] 40)
  have hraw0 := hraw.below hb0
  have hbx := Box7.new w (TR.mk k n g A ln lc u s B m d)
  generalize t.mag = l at *
  clear e1 e2 e3 e4 e5 e6 h hraw
  have HR := Lib.hid hR
  clear hR
  by_cases h1 : k = 1
  · subst h1
    have hfin := Lib.hid (show R = (decide (-1152921504606846976 ≤ n) && decide (n ≤ 1152921504606846975)) by rw [HR.out]; rfl)
    clear HR hbx
    go_enter Tryz.func157, Tryz.ntmps157
    go_wp2
    all_goals
      go_ret
      refine ⟨?_, hb0⟩
      rw [hfin.out]
      first | (simp_all; done) | (simp_all; omega)
  by_cases h2 : k = 2
  · subst h2
    have hfin := Lib.hid (show R = (mayB g l && !smOk g l) by rw [HR.out]; rfl)
    clear HR
    go_enter Tryz.func157, Tryz.ntmps157
    go_wp2_with fail
    generalize w.alloc (.cells #[.int .i64 2, .int .i64 n, .bool g, .slice A ln lc, .int .u64 u, .string s, .slice B m d] 40) = W at *
    refine (small_raw W g A ln lc l hraw0).mono ?_
    generalize smZ g l = z
    generalize smOk g l = ok at hfin ⊢
    rintro e w1 ⟨rfl, hb1⟩
    have hbx1 := (hbx.below hb1).at
    have y2 := hbx1.c2
    have y3 := hbx1.c3
    go_wp2_with fail
    refine (may_b w1 g A ln lc l (hraw0.below hb1)).mono ?_
    generalize mayB g l = mb at hfin ⊢
    rintro e w2 ⟨rfl, hb2⟩
    have hb02 := hb0.trans (hb1.mono hb0.size)
    have hb03 := hb02.trans (hb2.mono hb02.size)
    cases mb
    all_goals
      go_wp2
      go_ret
      exact ⟨by rw [hfin.out]; rfl, hb03⟩
  by_cases h3 : k = 3
  · subst h3
    have hfin := Lib.hid (show R = (cleanI u == u) by rw [HR.out]; rfl)
    clear HR hbx
    go_enter Tryz.func157, Tryz.ntmps157
    go_wp2_with fail
    refine (may_flt _ u hu).mono ?_
    generalize (cleanI u == u) = c at hfin ⊢
    rintro e w1 ⟨rfl, rfl⟩
    go_wp2
    go_ret
    exact ⟨by rw [hfin.out]; rfl, hb0⟩
  by_cases h4 : k = 4
  · subst h4
    have hfin := Lib.hid (show R = (decide (0 ≤ n) && decide (n ≤ 255)) by rw [HR.out]; rfl)
    clear HR hbx
    go_enter Tryz.func157, Tryz.ntmps157
    go_wp2
    all_goals
      go_ret
      refine ⟨?_, hb0⟩
      rw [hfin.out]
      first | (simp_all; done) | (simp_all; omega)
  by_cases h5 : k = 5
  · subst h5
    have hfin := Lib.hid (show R = (decide (0 ≤ n) && decide (n ≤ 63)) by rw [HR.out]; rfl)
    clear HR hbx
    go_enter Tryz.func157, Tryz.ntmps157
    go_wp2
    all_goals
      go_ret
      refine ⟨?_, hb0⟩
      rw [hfin.out]
      first | (simp_all; done) | (simp_all; omega)
  by_cases h6 : k = 6
  · subst h6
    have hfin := Lib.hid (show R = decide ((m : Int) ≤ 8) by rw [HR.out]; simp; omega)
    clear HR hbx
    go_enter Tryz.func157, Tryz.ntmps157
    go_wp2
    go_ret
    exact ⟨by rw [hfin.out]; rfl, hb0⟩
  by_cases h7 : k = 7
  · subst h7
    have hfin := Lib.hid (show R = true by rw [HR.out]; rfl)
    clear HR hbx
    go_enter Tryz.func157, Tryz.ntmps157
    go_wp2
    go_ret
    exact ⟨by rw [hfin.out]; rfl, hb0⟩
  by_cases h8 : k = 8
  · subst h8
    have hfin := Lib.hid (show R = ((m : Int) == 2) by
      rw [HR.out]
      by_cases e : m = 2
      · subst e; rfl
      · rw [beq_eq_false_iff_ne.2 (show (m : Int) ≠ 2 by omega)]
        simp [e])
    clear HR hbx
    go_enter Tryz.func157, Tryz.ntmps157
    go_wp2
    go_ret
    exact ⟨by rw [hfin.out]; rfl, hb0⟩
  by_cases h9 : k = 9
  · subst h9
    have hfin := Lib.hid (show R = decide ((s.size : Int) ≤ 400) by rw [HR.out]; simp; omega)
    clear HR hbx
    go_enter Tryz.func157, Tryz.ntmps157
    go_wp2
    go_ret
    exact ⟨by rw [hfin.out]; rfl, hb0⟩
  have hfin := Lib.hid (show R = false by rw [HR.out, if_neg h1, if_neg h2, if_neg h3, if_neg h4, if_neg h5, if_neg h6, if_neg h7, if_neg h8, if_neg h9])
  clear HR hbx
  have e1 : (k == 1) = false := beq_eq_false_iff_ne.2 h1
  have e2 : (k == 2) = false := beq_eq_false_iff_ne.2 h2
  have e3 : (k == 3) = false := beq_eq_false_iff_ne.2 h3
  have e4 : (k == 4) = false := beq_eq_false_iff_ne.2 h4
  have e5 : (k == 5) = false := beq_eq_false_iff_ne.2 h5
  have e6 : (k == 6) = false := beq_eq_false_iff_ne.2 h6
  have e7 : (k == 7) = false := beq_eq_false_iff_ne.2 h7
  have e8 : (k == 8) = false := beq_eq_false_iff_ne.2 h8
  have e9 : (k == 9) = false := beq_eq_false_iff_ne.2 h9
  go_enter Tryz.func157, Tryz.ntmps157
  go_wp2
  go_ret
  exact ⟨by rw [hfin.out]; rfl, hb0⟩
set_option maxRecDepth 100000 in
theorem tbounded_any (w : World) (r : TR) (t : Tm) (h : TV w r t) :
    Calls Tryz.prog 157 #[.agg #[.int .i64 r.k, .int .i64 r.n, .bool r.g, .slice r.A r.ln r.lc, .int .u64 r.u, .string r.s, .slice r.B r.m r.d]] w fun e w' => e = .returned (.bool t.boundB) ∧ Below w.heap.size w w' :=
  bounded_any' w r.k r.n r.g r.A r.ln r.lc r.u r.s r.B r.m r.d t h
end Go.Proofs.YtejmmjedognaaaaGreat
