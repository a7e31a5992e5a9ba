/-
  THE LAW SizesSums.
-/
import Derived.Test.YtabiihdcbpfoiaaSzB
import Derived.Test.YtabiihdcbpfoiaaLawSL
namespace Go.Proofs.Ytabiihdcbpfoiaa
open Go.RowKit

set_option maxRecDepth 100000 in
theorem want_in {l n : Int} (h1 : 0 ≤ l) (h2 : l ≤ 200000) (h3 : 0 ≤ n) (h4 : n ≤ 200000) : wV l n = fV (4 * l + n) ∧ wB l n = true ∧ 4 * l + n ≤ fV (4 * l + n) := by
  have e1 : okB l = true := by unfold okB; simp; omega
  have e2 : okB n = true := by unfold okB; simp; omega
  have := sz_26
  obtain ⟨k, a, b, c, d, e⟩ := fits_least (show 4 * l + n ≤ sz 26 by omega)
  unfold wV wB
  rw [e1, e2, e]
  exact ⟨rfl, rfl, by rw [d]; exact b⟩

set_option maxRecDepth 100000 in
set_option maxHeartbeats 2000000 in
theorem sizesSums_walk (i l n m : Int) (W : World) :
    Calls Try.prog 5 #[.int .i64 i, .int .i64 l, .int .i64 n, .int .i64 m] W fun e W' => e = .returned (.bool true) ∧ W = W' := by
  obtain ⟨k, hk, hlow⟩ := low_int i 25 (by omega) (by omega)
  obtain ⟨l', hl, hlowl⟩ := low_int l 100000 (by omega) (by omega)
  obtain ⟨n', hn, hlown⟩ := low_int n 100000 (by omega) (by omega)
  obtain ⟨m', hm, hlowm⟩ := low_int m 1000 (by omega) (by omega)
  have h1 := Lib.hid hlow
  have h2 := Lib.hid hlowl
  have h3 := Lib.hid hlown
  have h4 := Lib.hid hlowm
  clear hlow hlowl hlown hlowm
  have sa := Lib.hid (szV_nat (show k ≤ 26 by omega))
  have sb := Lib.hid (show inB ((k : Int) + 1) = true ∧ szV ((k : Int) + 1) = sz (k + 1) from szV_nat (k := k + 1) (by omega))
  have sc := Lib.hid (show inB ((k : Int) + 2) = true ∧ szV ((k : Int) + 2) = sz k + sz (k + 1) from szV_nat (k := k + 2) (by omega))
  have sn := Lib.hid (szV_no (i := 27 + (m' : Int)) (by omega))
  have b0 := (sz_bd k).1
  have b1 := (sz_bd (k + 1)).1
  have b2 := sz_top (show k ≤ 28 by omega)
  have b3 := sz_top (show k + 1 ≤ 28 by omega)
  have hz := sz_26
  have g1 := want_in (l := l') (n := n') (by omega) (by omega) (by omega) (by omega)
  have g2 := want_in (l := (l' : Int) + m') (n := n') (by omega) (by omega) (by omega) (by omega)
  have g3 := want_in (l := l') (n := (n' : Int) + m') (by omega) (by omega) (by omega) (by omega)
  have c1 := g1.2.2
  have c2 : fV (4 * (l' : Int) + n') ≤ fV (4 * ((l' : Int) + m') + n') := fV_mono (by omega) (by omega)
  have c3 : fV (4 * (l' : Int) + n') ≤ fV (4 * (l' : Int) + (n' + m')) := fV_mono (by omega) (by omega)
  have w1 := Lib.hid (And.intro g1.1 g1.2.1)
  have w2 := Lib.hid (And.intro g2.1 g2.2.1)
  have w3 := Lib.hid (And.intro g3.1 g3.2.1)
  clear g1 g2 g3 hz
  generalize fV (4 * (l' : Int) + n') = x at *
  generalize fV (4 * ((l' : Int) + m') + n') = y at *
  generalize fV (4 * (l' : Int) + (n' + m')) = z at *
  generalize sz k = a at *
  generalize sz (k + 1) = b at *
  go_enter Try.func5, Try.ntmps5
  go_wp2_with (first
    | (go_at_call 13; first | ((with_reducible refine (h1.out _).mono ?_); rintro e w' ⟨rfl, rfl⟩) | ((with_reducible refine (h2.out _).mono ?_); rintro e w' ⟨rfl, rfl⟩) | ((with_reducible refine (h3.out _).mono ?_); rintro e w' ⟨rfl, rfl⟩) | ((with_reducible refine (h4.out _).mono ?_); rintro e w' ⟨rfl, rfl⟩))
    | (go_at_call 6; refine (size_any _ _).mono ?_; (first | rw [sa.out.1, sa.out.2] | rw [sb.out.1, sb.out.2] | rw [sc.out.1, sc.out.2] | rw [sn.out.1, sn.out.2]); rintro e w' ⟨rfl, rfl⟩)
    | (go_at_call 10; refine (want_any _ _ _).mono ?_; (first | rw [w1.out.1, w1.out.2] | rw [w2.out.1, w2.out.2] | rw [w3.out.1, w3.out.2]); rintro e w' ⟨rfl, rfl⟩)
    | (go_at_call 12; refine (awake9_any _).mono ?_; rintro e w' ⟨rfl, rfl⟩))
  all_goals go_ret
  all_goals exact ⟨rfl, rfl⟩
set_option maxRecDepth 100000 in
theorem sizesSums_below (i l n m : Int) (W : World) :
    Calls Try.prog 5 #[.int .i64 i, .int .i64 l, .int .i64 n, .int .i64 m] W fun e W' => e = .returned (.bool true) ∧ Below W.heap.size W W' :=
  (sizesSums_walk i l n m W).mono fun _ _ h => by
    obtain ⟨h1, h2⟩ := h
    subst h2
    exact ⟨h1, Below.refl _ _⟩
end Go.Proofs.Ytabiihdcbpfoiaa
