/-
  THE LAW RealHalves.
-/
import Derived.Test.YtgencmjdejgkoaaFltP
namespace Go.Proofs.Ytgencmjdejgkoaa
open Go.RowKit

theorem ofZ_nat (m : Nat) : ofZ (m : Int) = Fl.ofN m := by
  unfold ofZ
  rw [decide_eq_false (by omega), Int.natAbs_natCast, Fl.word_false]
theorem ofZ_neg {m : Nat} (h : 0 < m) : ofZ (-(m : Int)) = Fl.S + Fl.ofN m := by
  unfold ofZ
  rw [decide_eq_true (by omega), Int.natAbs_neg, Int.natAbs_natCast]
  unfold Ieee.Format.word
  rw [if_pos rfl, Fl.sw_eq]
theorem i64_min : IntKind.i64.min = -9223372036854775808 := rfl
theorem i64_max : IntKind.i64.max = 9223372036854775807 := rfl
theorem conv64 {r X : Nat} (hr : r < Fl.INF) (hv : Fl.val r = X * Fl.U) (hX : X < 4611686018427387904) : floatToIntVal .f64 r .i64 = some (X : Int) := by
  have hS : r < Fl.S := Nat.lt_trans hr Fl.INF_lt_S
  have h1 := Fl.toInt_num (a := r) (M := X) (by rw [Fl.pos_rg hS]; exact hr) (by rw [Fl.pos_rg hS]; exact hv)
  rw [Fl.pos_ng hS] at h1
  unfold Fl.sgnd at h1
  rw [if_neg (by decide)] at h1
  unfold floatToIntVal
  rw [Fl.decode_eq, h1]
  simp only []
  rw [if_pos ⟨by rw [i64_min]; omega, by rw [i64_max]; omega⟩]
theorem next_down {r : Nat} (h1 : 1 ≤ r) (h2 : r < Fl.INF) : nextN r 0 = r - 1 := by
  have hS : r < Fl.S := Nat.lt_trans h2 Fl.INF_lt_S
  unfold nextN
  have e : Fl.si r = (r : Int) := by unfold Fl.si Fl.sgnd; rw [Fl.pos_rg hS, Fl.pos_ng hS]; rfl
  rw [Fl.pos_rg hS, if_neg (by omega), e, zero_si, decide_eq_false (by omega), decide_eq_true (by omega), if_neg (by decide)]
theorem inf_si : Fl.si 9218868437227405312 = 9218868437227405312 := by decide
theorem inf_nan : Fl.nanB 9218868437227405312 = false := by decide
theorem next_up {r : Nat} (h1 : 1 ≤ r) (h2 : r < Fl.INF) : nextN r 9218868437227405312 = r + 1 := by
  have hS : r < Fl.S := Nat.lt_trans h2 Fl.INF_lt_S
  have eI : Fl.INF = 9218868437227405312 := rfl
  unfold nextN
  have e : Fl.si r = (r : Int) := by unfold Fl.si Fl.sgnd; rw [Fl.pos_rg hS, Fl.pos_ng hS]; rfl
  rw [Fl.pos_rg hS, if_neg (by omega), e, inf_si, decide_eq_true (by omega), decide_eq_true (by omega), if_pos (by decide)]

/-- What the law's end asks of n. -/
structure Half (m r X L H : Nat) : Prop where
  ho : ∀ (w : World) (s : Bool) (A : Option Addr) (n c : Nat), Nm w s A n c (m : Int) → Calls Try.prog 26 #[.agg #[.bool s, .slice A n c]] w fun e w' => e = .returned (.int .u64 (r : Nat)) ∧ Below w.heap.size w w'
  hm : ∀ (w : World) (s : Bool) (A : Option Addr) (n c : Nat), Nm w s A n c (-(m : Int)) → Calls Try.prog 26 #[.agg #[.bool s, .slice A n c]] w fun e w' => e = .returned (.int .u64 (9223372036854775808 + r : Nat)) ∧ Below w.heap.size w w'
  n0 : ∀ w, Calls Try.prog 34 #[.float .f64 r, .float .f64 0] w fun e w' => e = .returned (.float .f64 (r - 1)) ∧ w = w'
  n1 : ∀ w, Calls Try.prog 34 #[.float .f64 r, .float .f64 9218868437227405312] w fun e w' => e = .returned (.float .f64 (r + 1)) ∧ w = w'
  cx : ∀ w, (convert 36 3 (.float .f64 r)).run Try.prog w = .ok (.int .i64 X) w
  cl : ∀ w, (convert 36 3 (.float .f64 (r - 1))).run Try.prog w = .ok (.int .i64 L) w
  ch : ∀ w, (convert 36 3 (.float .f64 (r + 1))).run Try.prog w = .ok (.int .i64 H) w
  fx : floatOfInt .f64 (X : Int) = r
  eq : (FloatKind.f64.format.order r r == some .eq) = true
  orr : bits .or .u64 (r : Int) 9223372036854775808 = ((9223372036854775808 + r : Nat) : Int)
theorem half_of {m X L H : Nat} (h1 : 9007199254740992 ≤ m) (h2 : m < 1152921504606846976) (N : Fl.Near m (Fl.ofN m) X L H) : Half m (Fl.ofN m) X L H := by
  have ht : (m : Int).natAbs < Lm.top := by have := Lm.top_ge; omega
  have ht' : (-(m : Int)).natAbs < Lm.top := by have := Lm.top_ge; omega
  have hI := N.hi
  have hlo := N.lo
  have hS := Fl.INF_lt_S
  have e53 : Fl.B = 4503599627370496 := rfl
  have eS : Fl.S = 9223372036854775808 := rfl
  have eI : Fl.INF = 9218868437227405312 := rfl
  have hr1 : Fl.ofN m < 2 * Fl.S := by omega
  have hnan : Fl.nanB (Fl.ofN m) = false := by rw [← ofZ_nat]; exact ofZ_nan _
  have hsi : Fl.si (Fl.ofN m) = (Fl.ofN m : Int) := by unfold Fl.si Fl.sgnd; rw [Fl.pos_rg (Fl.ofN_lt m), Fl.pos_ng (Fl.ofN_lt m)]; rfl
  have hxl := N.lx
  have hxh := N.xh
  have htop := N.top
  constructor
  · intro w s A n c h
    have := of_z w s A n c _ h ht
    rwa [ofZ_nat] at this
  · intro w s A n c h
    have := of_z w s A n c _ h ht'
    rwa [ofZ_neg (by omega), eS] at this
  · intro w
    have := next_any w (Fl.ofN m) 0 hr1 (by decide) hnan zero_nan (by rw [hsi, zero_si]; omega)
    rwa [next_down (by omega) (by omega)] at this
  · intro w
    have := next_any w (Fl.ofN m) 9218868437227405312 hr1 (by decide) hnan inf_nan (by rw [hsi, inf_si]; omega)
    rwa [next_up (by omega) (by omega)] at this
  · exact fun w => run_convert_float_int w 36 3 .f64 .i64 _ _ (by kernel_rfl) Try.underlying3 (conv64 (by omega) N.vx (by omega))
  · exact fun w => run_convert_float_int w 36 3 .f64 .i64 _ _ (by kernel_rfl) Try.underlying3 (conv64 (by omega) N.vl (by omega))
  · exact fun w => run_convert_float_int w 36 3 .f64 .i64 _ _ (by kernel_rfl) Try.underlying3 (conv64 (by omega) N.vh (by omega))
  · rw [floatOf_z, ofZ_nat, Fl.ofN_def, ← N.vx, Fl.R_val (by omega)]
  · rw [flt_eq hnan hnan, decide_eq_true rfl]
  · have := bits_or (U64.mk hr1)
    rw [Int.toNat_natCast, Fl.pos_rg (Fl.ofN_lt m), eS] at this
    exact this

end Go.Proofs.Ytgencmjdejgkoaa
