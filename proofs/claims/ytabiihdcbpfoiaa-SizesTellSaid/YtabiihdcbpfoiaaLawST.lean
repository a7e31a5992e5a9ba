/-
  THE LAW SizesTell.
-/
import Derived.Test.YtabiihdcbpfoiaaSzB
namespace Go.Proofs.Ytabiihdcbpfoiaa
open Go.RowKit

set_option maxRecDepth 100000 in
set_option maxHeartbeats 2000000 in
theorem sizesTell_walk (i n l m : Int) (W : World) :
    Calls Try.prog 3 #[.int .i64 i, .int .i64 n, .int .i64 l, .int .i64 m] W fun e W' => e = .returned (.bool true) ∧ W = W' := by
  obtain ⟨sv, hsv⟩ : ∃ sv, szV i = sv := ⟨_, rfl⟩
  obtain ⟨sb, hsb⟩ : ∃ sb, inB i = sb := ⟨_, rfl⟩
  obtain ⟨fv, hfv⟩ : ∃ fv, fV n = fv := ⟨_, rfl⟩
  obtain ⟨fb, hfb⟩ : ∃ fb, fB n = fb := ⟨_, rfl⟩
  obtain ⟨wv, hwv⟩ : ∃ wv, wV l m = wv := ⟨_, rfl⟩
  obtain ⟨wb, hwb⟩ : ∃ wb, wB l m = wb := ⟨_, rfl⟩
  have hsv := Lib.hid hsv
  have hsb := Lib.hid hsb
  have hfv := Lib.hid hfv
  have hfb := Lib.hid hfb
  have hwv := Lib.hid hwv
  have hwb := Lib.hid hwb
  go_enter Try.func3, Try.ntmps3
  go_wp2_with (first
    | (go_at_call 6; refine (size_any _ _).mono ?_; rw [hsv.out, hsb.out]; rintro e w' ⟨rfl, rfl⟩)
    | (go_at_call 7; refine (refSize_any _ _).mono ?_; rw [hsv.out, hsb.out]; rintro e w' ⟨rfl, rfl⟩)
    | (go_at_call 8; refine (fit_any _ _).mono ?_; rw [hfv.out, hfb.out]; rintro e w' ⟨rfl, rfl⟩)
    | (go_at_call 9; refine (refFit_any _ _).mono ?_; rw [hfv.out, hfb.out]; rintro e w' ⟨rfl, rfl⟩)
    | (go_at_call 10; refine (want_any _ _ _).mono ?_; rw [hwv.out, hwb.out]; rintro e w' ⟨rfl, rfl⟩)
    | (go_at_call 11; refine (refWant_any _ _ _).mono ?_; rw [hwv.out, hwb.out]; rintro e w' ⟨rfl, rfl⟩)
    | (go_at_call 12; refine (awake9_any _).mono ?_; rintro e w' ⟨rfl, rfl⟩))
  all_goals go_ret
  all_goals exact ⟨rfl, rfl⟩
set_option maxRecDepth 100000 in
theorem sizesTell_below (i n l m : Int) (W : World) :
    Calls Try.prog 3 #[.int .i64 i, .int .i64 n, .int .i64 l, .int .i64 m] W fun e W' => e = .returned (.bool true) ∧ Below W.heap.size W W' :=
  (sizesTell_walk i n l m W).mono fun _ _ h => by
    obtain ⟨h1, h2⟩ := h
    subst h2
    exact ⟨h1, Below.refl _ _⟩
end Go.Proofs.Ytabiihdcbpfoiaa
