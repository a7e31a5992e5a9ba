/-
  CONTRACTS OF THE REFERENCE's Add, Sub, Mul, Div.
-/
import Derived.Test.YtompimbeaeinbaaGreatJ5
namespace Go.Proofs.YtompimbeaeinbaaGreat
open Go.RowKit

theorem refF_any (w : World) (a : Int) :
    Calls Tryz.prog 39 #[.int .u64 a] w fun e w' => e = .returned (.float .f64 a.toNat) ∧ w = w' := by
  have c1 := call_frombits
  go_enter Tryz.func39, Tryz.ntmps39
  go_wp2
  go_ret
  exact ⟨rfl, rfl⟩
set_option maxHeartbeats 400000 in
theorem refBits_any (w : World) (b : Nat) (h : b < 2 * Fl.S) :
    Calls Tryz.prog 38 #[.float .f64 b] w fun e w' => e = .returned (.int .u64 (cleanN b : Nat)) ∧ w = w' := by
  have c2 := call_bits
  have hu := U64.mk h
  go_enter Tryz.func38, Tryz.ntmps38
  go_wp2_with (go_at_call 68; refine (refClean_any _ _ hu).mono ?_; rintro e w' ⟨rfl, rfl⟩)
  go_ret
  exact ⟨rfl, rfl⟩

set_option maxHeartbeats 400000 in
theorem refAddF_any (w : World) (a b : Int) :
    Calls Tryz.prog 19 #[.int .u64 a, .int .u64 b] w fun e w' => e = .returned (.int .u64 (opI .add a b)) ∧ Below w.heap.size w w' := by
  cases h : floatBits .add .f64 a.toNat b.toNat with
  | some r =>
    have fin := Lib.hid (clean_some h)
    have hr : r < 2 * Fl.S := by have := opN_lt .add a.toNat b.toNat; unfold opN at this; rw [h] at this; exact this
    have hrun := fun w => run_float_arith (P := Tryz.prog) w .add 60 .f64 _ _ r h
    clear h
    go_enter Tryz.func19, Tryz.ntmps19
    go_wp2_with (first
      | (go_at_call 39; refine (refF_any _ _).mono ?_; rintro e w' ⟨rfl, rfl⟩)
      | (go_at_call 38; refine (refBits_any _ _ hr).mono ?_; rintro e w' ⟨rfl, rfl⟩))
    go_ret
    rw [fin.out]
    exact ⟨rfl, Below.refl _ _⟩
  | none =>
    have hrun := run_float_none (P := Tryz.prog) w .add 60 _ _ (by decide) h
    have hc := nan_cut w a.toNat b.toNat
    have fin := Lib.hid (clean_none h hc.1)
    have hr := hc.2
    generalize Question.cut (.nanBits .f64 a.toNat b.toNat) (w.tape w.drawn (.nanBits .f64 a.toNat b.toNat)) = r at *
    clear h hc
    go_enter Tryz.func19, Tryz.ntmps19
    go_wp2_with (first
      | (go_at_call 39; refine (refF_any _ _).mono ?_; rintro e w' ⟨rfl, rfl⟩)
      | (go_at_call 38; refine (refBits_any _ _ hr).mono ?_; rintro e w' ⟨rfl, rfl⟩))
    go_ret
    rw [fin.out]
    exact ⟨rfl, (Below.refl _ _).drew⟩

set_option maxHeartbeats 400000 in
theorem refSubF_any (w : World) (a b : Int) :
    Calls Tryz.prog 20 #[.int .u64 a, .int .u64 b] w fun e w' => e = .returned (.int .u64 (opI .sub a b)) ∧ Below w.heap.size w w' := by
  cases h : floatBits .sub .f64 a.toNat b.toNat with
  | some r =>
    have fin := Lib.hid (clean_some h)
    have hr : r < 2 * Fl.S := by have := opN_lt .sub a.toNat b.toNat; unfold opN at this; rw [h] at this; exact this
    have hrun := fun w => run_float_arith (P := Tryz.prog) w .sub 60 .f64 _ _ r h
    clear h
    go_enter Tryz.func20, Tryz.ntmps20
    go_wp2_with (first
      | (go_at_call 39; refine (refF_any _ _).mono ?_; rintro e w' ⟨rfl, rfl⟩)
      | (go_at_call 38; refine (refBits_any _ _ hr).mono ?_; rintro e w' ⟨rfl, rfl⟩))
    go_ret
    rw [fin.out]
    exact ⟨rfl, Below.refl _ _⟩
  | none =>
    have hrun := run_float_none (P := Tryz.prog) w .sub 60 _ _ (by decide) h
    have hc := nan_cut w a.toNat b.toNat
    have fin := Lib.hid (clean_none h hc.1)
    have hr := hc.2
    generalize Question.cut (.nanBits .f64 a.toNat b.toNat) (w.tape w.drawn (.nanBits .f64 a.toNat b.toNat)) = r at *
    clear h hc
    go_enter Tryz.func20, Tryz.ntmps20
    go_wp2_with (first
      | (go_at_call 39; refine (refF_any _ _).mono ?_; rintro e w' ⟨rfl, rfl⟩)
      | (go_at_call 38; refine (refBits_any _ _ hr).mono ?_; rintro e w' ⟨rfl, rfl⟩))
    go_ret
    rw [fin.out]
    exact ⟨rfl, (Below.refl _ _).drew⟩

set_option maxHeartbeats 400000 in
theorem refMulF_any (w : World) (a b : Int) :
    Calls Tryz.prog 21 #[.int .u64 a, .int .u64 b] w fun e w' => e = .returned (.int .u64 (opI .mul a b)) ∧ Below w.heap.size w w' := by
  cases h : floatBits .mul .f64 a.toNat b.toNat with
  | some r =>
    have fin := Lib.hid (clean_some h)
    have hr : r < 2 * Fl.S := by have := opN_lt .mul a.toNat b.toNat; unfold opN at this; rw [h] at this; exact this
    have hrun := fun w => run_float_arith (P := Tryz.prog) w .mul 60 .f64 _ _ r h
    clear h
    go_enter Tryz.func21, Tryz.ntmps21
    go_wp2_with (first
      | (go_at_call 39; refine (refF_any _ _).mono ?_; rintro e w' ⟨rfl, rfl⟩)
      | (go_at_call 38; refine (refBits_any _ _ hr).mono ?_; rintro e w' ⟨rfl, rfl⟩))
    go_ret
    rw [fin.out]
    exact ⟨rfl, Below.refl _ _⟩
  | none =>
    have hrun := run_float_none (P := Tryz.prog) w .mul 60 _ _ (by decide) h
    have hc := nan_cut w a.toNat b.toNat
    have fin := Lib.hid (clean_none h hc.1)
    have hr := hc.2
    generalize Question.cut (.nanBits .f64 a.toNat b.toNat) (w.tape w.drawn (.nanBits .f64 a.toNat b.toNat)) = r at *
    clear h hc
    go_enter Tryz.func21, Tryz.ntmps21
    go_wp2_with (first
      | (go_at_call 39; refine (refF_any _ _).mono ?_; rintro e w' ⟨rfl, rfl⟩)
      | (go_at_call 38; refine (refBits_any _ _ hr).mono ?_; rintro e w' ⟨rfl, rfl⟩))
    go_ret
    rw [fin.out]
    exact ⟨rfl, (Below.refl _ _).drew⟩

set_option maxHeartbeats 400000 in
theorem refDivF_any (w : World) (a b : Int) :
    Calls Tryz.prog 18 #[.int .u64 a, .int .u64 b] w fun e w' => e = .returned (.int .u64 (opI .quo a b)) ∧ Below w.heap.size w w' := by
  cases h : floatBits .quo .f64 a.toNat b.toNat with
  | some r =>
    have fin := Lib.hid (clean_some h)
    have hr : r < 2 * Fl.S := by have := opN_lt .quo a.toNat b.toNat; unfold opN at this; rw [h] at this; exact this
    have hrun := fun w => run_float_arith (P := Tryz.prog) w .quo 60 .f64 _ _ r h
    clear h
    go_enter Tryz.func18, Tryz.ntmps18
    go_wp2_with (first
      | (go_at_call 39; refine (refF_any _ _).mono ?_; rintro e w' ⟨rfl, rfl⟩)
      | (go_at_call 38; refine (refBits_any _ _ hr).mono ?_; rintro e w' ⟨rfl, rfl⟩))
    go_ret
    rw [fin.out]
    exact ⟨rfl, Below.refl _ _⟩
  | none =>
    have hrun := run_float_none (P := Tryz.prog) w .quo 60 _ _ (by decide) h
    have hc := nan_cut w a.toNat b.toNat
    have fin := Lib.hid (clean_none h hc.1)
    have hr := hc.2
    generalize Question.cut (.nanBits .f64 a.toNat b.toNat) (w.tape w.drawn (.nanBits .f64 a.toNat b.toNat)) = r at *
    clear h hc
    go_enter Tryz.func18, Tryz.ntmps18
    go_wp2_with (first
      | (go_at_call 39; refine (refF_any _ _).mono ?_; rintro e w' ⟨rfl, rfl⟩)
      | (go_at_call 38; refine (refBits_any _ _ hr).mono ?_; rintro e w' ⟨rfl, rfl⟩))
    go_ret
    rw [fin.out]
    exact ⟨rfl, (Below.refl _ _).drew⟩

end Go.Proofs.YtompimbeaeinbaaGreat
