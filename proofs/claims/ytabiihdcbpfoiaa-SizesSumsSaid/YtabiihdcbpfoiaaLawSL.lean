/-
  THE LAW SizesLeast.
-/
import Derived.Test.YtabiihdcbpfoiaaSzB
import Derived.Test.YtabiihdcbpfoiaaLow
namespace Go.Proofs.Ytabiihdcbpfoiaa
open Go.RowKit

set_option maxRecDepth 100000 in
theorem low_int (x m : Int) (hm : 0 < m) (hm' : m ≤ 1000000000) : ∃ r : Nat, (r : Int) < m ∧
    ∀ w : World, Calls Try.prog 13 #[.int .i64 x, .int .i64 m] w fun e w' => e = .returned (.int .i64 r) ∧ w = w' := by
  obtain ⟨p, rfl⟩ : ∃ p : Nat, m = (p : Int) := ⟨m.toNat, by omega⟩
  obtain ⟨r, h1, h2⟩ := low_nat x p (by omega) (by omega)
  exact ⟨r, by omega, h2⟩

set_option maxRecDepth 100000 in
set_option maxHeartbeats 2000000 in
theorem sizesLeast_walk (i n : Int) (W : World) :
    Calls Try.prog 4 #[.int .i64 i, .int .i64 n] W fun e W' => e = .returned (.bool true) ∧ W = W' := by
  obtain ⟨k, hk, hlow⟩ := low_int i 26 (by omega) (by omega)
  have sa := Lib.hid (szV_nat (show k ≤ 26 by omega))
  have sb := Lib.hid (show inB ((k : Int) + 1) = true ∧ szV ((k : Int) + 1) = sz (k + 1) from szV_nat (k := k + 1) (by omega))
  have b0 := sz_bd k
  have b1 := sz_top (show k + 1 ≤ 28 by omega)
  have fa := Lib.hid (fits_some (show k ≤ 26 by omega) (Int.le_refl _) (fun j hj => sz_lt hj))
  have fb : ∀ q : Int, sz k < q → q ≤ sz (k + 1) → fV q = sz (k + 1) ∧ fB q = true := fun q h1 h2 => fits_some (show k + 1 ≤ 26 by omega) h2 (fun j hj => by
    have := sz_mono (show j ≤ k by omega)
    omega)
  have fb := Lib.hid fb
  generalize sz k = a at *
  generalize sz (k + 1) = b at *
  obtain ⟨r, hr, hlow2⟩ := low_int n (b - a) (by omega) (by omega)
  have f2 := Lib.hid (fb.out (a + 1 + (r : Int)) (by omega) (by omega))
  clear fb
  have h1 := Lib.hid hlow
  have h2 := Lib.hid hlow2
  clear hlow hlow2
  obtain ⟨b0, b2, b3⟩ := b0
  go_enter Try.func4, Try.ntmps4
  go_wp2_with (first
    | (go_at_call 13; first | ((with_reducible refine (h1.out _).mono ?_); rintro e w' ⟨rfl, rfl⟩) | ((with_reducible refine (h2.out _).mono ?_); rintro e w' ⟨rfl, rfl⟩))
    | (go_at_call 6; refine (size_any _ _).mono ?_; (first | rw [sa.out.1, sa.out.2] | rw [sb.out.1, sb.out.2]); rintro e w' ⟨rfl, rfl⟩)
    | (go_at_call 8; refine (fit_any _ _).mono ?_; (first | rw [fa.out.1, fa.out.2] | rw [f2.out.1, f2.out.2]); rintro e w' ⟨rfl, rfl⟩)
    | (go_at_call 12; refine (awake9_any _).mono ?_; rintro e w' ⟨rfl, rfl⟩))
  all_goals go_ret
  all_goals exact ⟨rfl, rfl⟩
set_option maxRecDepth 100000 in
theorem sizesLeast_below (i n : Int) (W : World) :
    Calls Try.prog 4 #[.int .i64 i, .int .i64 n] W fun e W' => e = .returned (.bool true) ∧ Below W.heap.size W W' :=
  (sizesLeast_walk i n W).mono fun _ _ h => by
    obtain ⟨h1, h2⟩ := h
    subst h2
    exact ⟨h1, Below.refl _ _⟩
end Go.Proofs.Ytabiihdcbpfoiaa
