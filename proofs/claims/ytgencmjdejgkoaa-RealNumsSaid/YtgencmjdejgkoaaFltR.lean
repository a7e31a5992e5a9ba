/-
  CONTRACTS OF THE REFERENCE's Add, Sub, Mul, Div.
-/
import Derived.Test.YtgencmjdejgkoaaFltV
namespace Go.Proofs.Ytgencmjdejgkoaa
open Go.RowKit

theorem refF_any (w : World) (a : Int) :
    Calls Try.prog 39 #[.int .u64 a] w fun e w' => e = .returned (.float .f64 a.toNat) ∧ w = w' := by
  have c1 := call_frombits
  go_enter Try.func39, Try.ntmps39
  go_wp2
  go_ret
  exact ⟨rfl, rfl⟩
set_option maxHeartbeats 400000 in
theorem refBits_any (w : World) (b : Nat) (h : b < 2 * Fl.S) :
    Calls Try.prog 38 #[.float .f64 b] w fun e w' => e = .returned (.int .u64 (cleanN b : Nat)) ∧ w = w' := by
  have c2 := call_bits
  have hu := U64.mk h
  go_enter Try.func38, Try.ntmps38
  go_wp2_with (go_at_call 23; refine (refClean_any _ _ hu).mono ?_; rintro e w' ⟨rfl, rfl⟩)
  go_ret
  exact ⟨rfl, rfl⟩

set_option maxHeartbeats 400000 in
theorem refAddF_any (w : World) (a b : Int) :
    Calls Try.prog 11 #[.int .u64 a, .int .u64 b] w fun e w' => e = .returned (.int .u64 (opI .add a b)) ∧ Below w.heap.size w w' := by
  cases h : floatBits .add .f64 a.toNat b.toNat with
  | some r =>
    have fin := Lib.hid (clean_some h)
    have hr : r < 2 * Fl.S := by have := opN_lt .add a.toNat b.toNat; unfold opN at this; rw [h] at this; exact this
    have hrun := fun w => run_float_arith (P := Try.prog) w .add 36 .f64 _ _ r h
    clear h
    go_enter Try.func11, Try.ntmps11
    go_wp2_with (first
      | (go_at_call 39; refine (refF_any _ _).mono ?_; rintro e w' ⟨rfl, rfl⟩)
      | (go_at_call 38; refine (refBits_any _ _ hr).mono ?_; rintro e w' ⟨rfl, rfl⟩))
    go_ret
    rw [fin.out]
    exact ⟨rfl, Below.refl _ _⟩
  | none =>
    have hrun := run_float_none (P := Try.prog) w .add 36 _ _ (by decide) h
    have hc := nan_cut w a.toNat b.toNat
    have fin := Lib.hid (clean_none h hc.1)
    have hr := hc.2
    generalize Question.cut (.nanBits .f64 a.toNat b.toNat) (w.tape w.drawn (.nanBits .f64 a.toNat b.toNat)) = r at *
    clear h hc
    go_enter Try.func11, Try.ntmps11
    go_wp2_with (first
      | (go_at_call 39; refine (refF_any _ _).mono ?_; rintro e w' ⟨rfl, rfl⟩)
      | (go_at_call 38; refine (refBits_any _ _ hr).mono ?_; rintro e w' ⟨rfl, rfl⟩))
    go_ret
    rw [fin.out]
    exact ⟨rfl, (Below.refl _ _).drew⟩

set_option maxHeartbeats 400000 in
theorem refSubF_any (w : World) (a b : Int) :
    Calls Try.prog 13 #[.int .u64 a, .int .u64 b] w fun e w' => e = .returned (.int .u64 (opI .sub a b)) ∧ Below w.heap.size w w' := by
  cases h : floatBits .sub .f64 a.toNat b.toNat with
  | some r =>
    have fin := Lib.hid (clean_some h)
    have hr : r < 2 * Fl.S := by have := opN_lt .sub a.toNat b.toNat; unfold opN at this; rw [h] at this; exact this
    have hrun := fun w => run_float_arith (P := Try.prog) w .sub 36 .f64 _ _ r h
    clear h
    go_enter Try.func13, Try.ntmps13
    go_wp2_with (first
      | (go_at_call 39; refine (refF_any _ _).mono ?_; rintro e w' ⟨rfl, rfl⟩)
      | (go_at_call 38; refine (refBits_any _ _ hr).mono ?_; rintro e w' ⟨rfl, rfl⟩))
    go_ret
    rw [fin.out]
    exact ⟨rfl, Below.refl _ _⟩
  | none =>
    have hrun := run_float_none (P := Try.prog) w .sub 36 _ _ (by decide) h
    have hc := nan_cut w a.toNat b.toNat
    have fin := Lib.hid (clean_none h hc.1)
    have hr := hc.2
    generalize Question.cut (.nanBits .f64 a.toNat b.toNat) (w.tape w.drawn (.nanBits .f64 a.toNat b.toNat)) = r at *
    clear h hc
    go_enter Try.func13, Try.ntmps13
    go_wp2_with (first
      | (go_at_call 39; refine (refF_any _ _).mono ?_; rintro e w' ⟨rfl, rfl⟩)
      | (go_at_call 38; refine (refBits_any _ _ hr).mono ?_; rintro e w' ⟨rfl, rfl⟩))
    go_ret
    rw [fin.out]
    exact ⟨rfl, (Below.refl _ _).drew⟩

set_option maxHeartbeats 400000 in
theorem refMulF_any (w : World) (a b : Int) :
    Calls Try.prog 15 #[.int .u64 a, .int .u64 b] w fun e w' => e = .returned (.int .u64 (opI .mul a b)) ∧ Below w.heap.size w w' := by
  cases h : floatBits .mul .f64 a.toNat b.toNat with
  | some r =>
    have fin := Lib.hid (clean_some h)
    have hr : r < 2 * Fl.S := by have := opN_lt .mul a.toNat b.toNat; unfold opN at this; rw [h] at this; exact this
    have hrun := fun w => run_float_arith (P := Try.prog) w .mul 36 .f64 _ _ r h
    clear h
    go_enter Try.func15, Try.ntmps15
    go_wp2_with (first
      | (go_at_call 39; refine (refF_any _ _).mono ?_; rintro e w' ⟨rfl, rfl⟩)
      | (go_at_call 38; refine (refBits_any _ _ hr).mono ?_; rintro e w' ⟨rfl, rfl⟩))
    go_ret
    rw [fin.out]
    exact ⟨rfl, Below.refl _ _⟩
  | none =>
    have hrun := run_float_none (P := Try.prog) w .mul 36 _ _ (by decide) h
    have hc := nan_cut w a.toNat b.toNat
    have fin := Lib.hid (clean_none h hc.1)
    have hr := hc.2
    generalize Question.cut (.nanBits .f64 a.toNat b.toNat) (w.tape w.drawn (.nanBits .f64 a.toNat b.toNat)) = r at *
    clear h hc
    go_enter Try.func15, Try.ntmps15
    go_wp2_with (first
      | (go_at_call 39; refine (refF_any _ _).mono ?_; rintro e w' ⟨rfl, rfl⟩)
      | (go_at_call 38; refine (refBits_any _ _ hr).mono ?_; rintro e w' ⟨rfl, rfl⟩))
    go_ret
    rw [fin.out]
    exact ⟨rfl, (Below.refl _ _).drew⟩

set_option maxHeartbeats 400000 in
theorem refDivF_any (w : World) (a b : Int) :
    Calls Try.prog 17 #[.int .u64 a, .int .u64 b] w fun e w' => e = .returned (.int .u64 (opI .quo a b)) ∧ Below w.heap.size w w' := by
  cases h : floatBits .quo .f64 a.toNat b.toNat with
  | some r =>
    have fin := Lib.hid (clean_some h)
    have hr : r < 2 * Fl.S := by have := opN_lt .quo a.toNat b.toNat; unfold opN at this; rw [h] at this; exact this
    have hrun := fun w => run_float_arith (P := Try.prog) w .quo 36 .f64 _ _ r h
    clear h
    go_enter Try.func17, Try.ntmps17
    go_wp2_with (first
      | (go_at_call 39; refine (refF_any _ _).mono ?_; rintro e w' ⟨rfl, rfl⟩)
      | (go_at_call 38; refine (refBits_any _ _ hr).mono ?_; rintro e w' ⟨rfl, rfl⟩))
    go_ret
    rw [fin.out]
    exact ⟨rfl, Below.refl _ _⟩
  | none =>
    have hrun := run_float_none (P := Try.prog) w .quo 36 _ _ (by decide) h
    have hc := nan_cut w a.toNat b.toNat
    have fin := Lib.hid (clean_none h hc.1)
    have hr := hc.2
    generalize Question.cut (.nanBits .f64 a.toNat b.toNat) (w.tape w.drawn (.nanBits .f64 a.toNat b.toNat)) = r at *
    clear h hc
    go_enter Try.func17, Try.ntmps17
    go_wp2_with (first
      | (go_at_call 39; refine (refF_any _ _).mono ?_; rintro e w' ⟨rfl, rfl⟩)
      | (go_at_call 38; refine (refBits_any _ _ hr).mono ?_; rintro e w' ⟨rfl, rfl⟩))
    go_ret
    rw [fin.out]
    exact ⟨rfl, (Below.refl _ _).drew⟩

end Go.Proofs.Ytgencmjdejgkoaa
