/-
  A NUMBER BELOW A BOUND: beehivelaw0.Low (without limbs).
-/
import Derived.Test.YtacanobhfebnaaaStK
namespace Go.Proofs.Ytacanobhfebnaaa
open Go.RowKit

set_option maxRecDepth 100000 in
theorem low_nval (x : Int) (m : Nat) (hm : 0 < m) (hm' : m ≤ 1000000000) : ∃ r : Nat, r < m ∧ wrap64 ((IntKind.u64.wrap x).tmod m) = (r : Int) := by
  have h0 : 0 ≤ IntKind.u64.wrap x := by rw [IntKind.wrap_u64]; omega
  generalize IntKind.u64.wrap x = y at *
  have h1 : y.tmod m = y % m := Int.tmod_eq_emod_of_nonneg h0
  have h2 := Int.emod_nonneg y (show (m : Int) ≠ 0 by omega)
  have h3 := Int.emod_lt_of_pos y (show (0 : Int) < m by omega)
  rw [h1]
  generalize y % (m : Int) = z at *
  exact ⟨z.toNat, by omega, by simp only [wrap64]; omega⟩
set_option maxRecDepth 100000 in
theorem low_nat (x : Int) (m : Nat) (hm : 0 < m) (hm' : m ≤ 1000000000) : ∃ r : Nat, r < m ∧
    ∀ w : World, Calls Try.prog 25 #[.int .i64 x, .int .i64 m] w fun e w' => e = .returned (.int .i64 r) ∧ w = w' := by
  obtain ⟨r, h1, h2⟩ := low_nval x m hm hm'
  have H2 := Lib.hid h2
  clear h2
  refine ⟨r, h1, fun w => ?_⟩
  go_enter Try.func25, Try.ntmps25
  go_wp2
  go_ret
  exact ⟨by rw [← H2.out]; rfl, rfl⟩
set_option maxRecDepth 100000 in
theorem low_int (x m : Int) (hm : 0 < m) (hm' : m ≤ 1000000000) : ∃ r : Nat, (r : Int) < m ∧
    ∀ w : World, Calls Try.prog 25 #[.int .i64 x, .int .i64 m] w fun e w' => e = .returned (.int .i64 r) ∧ w = w' := by
  obtain ⟨p, rfl⟩ : ∃ p : Nat, m = (p : Int) := ⟨m.toNat, by omega⟩
  obtain ⟨r, h1, h2⟩ := low_nat x p (by omega) (by omega)
  exact ⟨r, by omega, h2⟩
end Go.Proofs.Ytacanobhfebnaaa
