/-
  SIZES: the reference's functions; awake.
-/
import Derived.Test.YtabiihdcbpfoiaaSzA
namespace Go.Proofs.Ytabiihdcbpfoiaa
open Go.RowKit

set_option maxRecDepth 100000 in
set_option maxHeartbeats 1000000 in
theorem refSize_any (i : Int) (W : World) : Calls Try.prog 7 #[.int .i64 i] W fun e W' => e = .returned (.tuple #[.int .i64 (szV i), .bool (inB i)]) ∧ W = W' := by
  by_cases h : i < 0 ∨ 26 < i
  · have H := Lib.hid (szV_no h)
    by_cases h1 : i < 0
    · clear h
      go_enter Try.func7, Try.ntmps7
      go_wp2
      go_ret2
      rw [H.out.1, H.out.2]
      exact ⟨rfl, rfl⟩
    · have h2 : 26 < i := by omega
      clear h
      go_enter Try.func7, Try.ntmps7
      go_wp2
      go_ret2
      rw [H.out.1, H.out.2]
      exact ⟨rfl, rfl⟩
  · obtain ⟨m, rfl⟩ : ∃ m : Nat, i = (m : Int) := ⟨i.toNat, by omega⟩
    have hm : m ≤ 26 := by omega
    have hm0 : ¬ (m : Int) < 0 := by omega
    have hm1 : ¬ (26 : Int) < m := by omega
    have H := Lib.hid (szV_nat hm)
    clear h
    go_enter Try.func7, Try.ntmps7
    go_wp2
    go_loop [4, 5, 6] (fun a b t => ∃ k : Nat, k ≤ m ∧ a = .int .i64 (sz k) ∧ b = .int .i64 (sz (k + 1)) ∧ t = .int .i64 k) (fun _ _ t => m - (intOf t).toNat)
    case atStart => exact ⟨0, Nat.zero_le _, rfl, rfl, rfl⟩
    case round =>
      obtain ⟨k, hk, rfl, rfl, rfl⟩ := hrel
      by_cases hlt : k < m
      · have b0 := (sz_bd k).1
        have b1 := (sz_bd (k + 1)).1
        have b2 := sz_top (show k ≤ 28 by omega)
        have b3 := sz_top (show k + 1 ≤ 28 by omega)
        have E := Lib.hid (sz_two k)
        go_wp2
        go_round
        case rel => exact ⟨k + 1, by omega, rfl, by rw [E.out], by go_num⟩
        case measure => simp [intOf]; omega
      · have e : k = m := by omega
        subst e
        go_wp2
        go_ret2
        rw [H.out.1, H.out.2]
        exact ⟨rfl, rfl⟩

set_option maxRecDepth 100000 in
set_option maxHeartbeats 1000000 in
theorem refFit_any (n : Int) (W : World) : Calls Try.prog 9 #[.int .i64 n] W fun e W' => e = .returned (.tuple #[.int .i64 (fV n), .bool (fB n)]) ∧ W = W' := by
  go_enter Try.func9, Try.ntmps9
  go_wp2
  go_loop [4] (fun t => ∃ k : Nat, k ≤ 27 ∧ (∀ j, j < k → sz j < n) ∧ t = .int .i64 k) (fun t => 27 - (intOf t).toNat)
  case atStart => exact ⟨0, Nat.zero_le _, fun j hj => absurd hj (by omega), rfl⟩
  case round =>
    obtain ⟨k, hk, hl, rfl⟩ := hrel
    by_cases hlt : k < 27
    · have S := Lib.hid (szV_nat (show k ≤ 26 by omega))
      by_cases g : n ≤ sz k
      · have F := Lib.hid (fits_some (by omega) g hl)
        clear hl
        go_wp2_with (go_at_call 7; refine (refSize_any _ _).mono ?_; rw [S.out.1, S.out.2]; rintro e w' ⟨rfl, rfl⟩)
        go_ret2
        rw [F.out.1, F.out.2]
        exact ⟨rfl, rfl⟩
      · have L := Lib.hid (show ∀ j, j < k + 1 → sz j < n from fun j hj => by
          by_cases e : j = k
          · subst e; omega
          · exact hl j (by omega))
        clear hl
        go_wp2_with (go_at_call 7; refine (refSize_any _ _).mono ?_; rw [S.out.1, S.out.2]; rintro e w' ⟨rfl, rfl⟩)
        go_round
        case rel => exact ⟨k + 1, by omega, L.out, by go_num⟩
        case measure => simp [intOf]; omega
    · have F := Lib.hid (fits_none (hl 26 (by omega)))
      clear hl
      go_wp2
      go_ret2
      rw [F.out.1, F.out.2]
      exact ⟨rfl, rfl⟩

set_option maxRecDepth 100000 in
set_option maxHeartbeats 1000000 in
theorem refWant_any (l n : Int) (W : World) : Calls Try.prog 11 #[.int .i64 l, .int .i64 n] W fun e W' => e = .returned (.tuple #[.int .i64 (wV l n), .bool (wB l n)]) ∧ W = W' := by
  by_cases h1 : l < 0
  · have H : Hid (wV l n = 0 ∧ wB l n = false) := Lib.hid (by unfold wV wB; rw [show okB l = false by unfold okB; simp; omega]; exact ⟨rfl, rfl⟩)
    go_enter Try.func11, Try.ntmps11
    go_wp2
    go_ret2
    rw [H.out.1, H.out.2]
    exact ⟨rfl, rfl⟩
  by_cases h2 : n < 0
  · have H : Hid (wV l n = 0 ∧ wB l n = false) := Lib.hid (by unfold wV wB; rw [show okB n = false by unfold okB; simp; omega, Bool.and_false]; exact ⟨rfl, rfl⟩)
    go_enter Try.func11, Try.ntmps11
    go_wp2
    go_ret2
    rw [H.out.1, H.out.2]
    exact ⟨rfl, rfl⟩
  by_cases h3 : 1073741824 < l
  · have H : Hid (wV l n = 0 ∧ wB l n = false) := Lib.hid (by unfold wV wB; rw [show okB l = false by unfold okB; simp; omega]; exact ⟨rfl, rfl⟩)
    go_enter Try.func11, Try.ntmps11
    go_wp2
    go_ret2
    rw [H.out.1, H.out.2]
    exact ⟨rfl, rfl⟩
  by_cases h4 : 1073741824 < n
  · have H : Hid (wV l n = 0 ∧ wB l n = false) := Lib.hid (by unfold wV wB; rw [show okB n = false by unfold okB; simp; omega, Bool.and_false]; exact ⟨rfl, rfl⟩)
    go_enter Try.func11, Try.ntmps11
    go_wp2
    go_ret2
    rw [H.out.1, H.out.2]
    exact ⟨rfl, rfl⟩
  have H : Hid (wV l n = fV (4 * l + n) ∧ wB l n = fB (4 * l + n)) := Lib.hid (by unfold wV wB; rw [show okB l = true by unfold okB; simp; omega, show okB n = true by unfold okB; simp; omega]; exact ⟨rfl, rfl⟩)
  go_enter Try.func11, Try.ntmps11
  go_wp2_with (go_at_call 9; refine (refFit_any _ _).mono ?_; rintro e w' ⟨rfl, rfl⟩)
  go_ret2
  rw [H.out.1, H.out.2]
  exact ⟨rfl, rfl⟩

set_option maxRecDepth 100000 in
set_option maxHeartbeats 1000000 in
theorem awake9_any (W : World) : Calls Try.prog 12 #[] W fun e W' => e = .returned (.bool true) ∧ W = W' := by
  have s1 : Hid (szV 2 = 32 ∧ inB 2 = true) := Lib.hid (by decide)
  have s2 : Hid (fV 33 = 52 ∧ fB 33 = true) := Lib.hid (by decide)
  have s3 : Hid (wV 3 1 = 20 ∧ wB 3 1 = true) := Lib.hid (by decide)
  go_enter Try.func12, Try.ntmps12
  go_wp2_with (first
    | (go_at_call 6; refine (size_any _ _).mono ?_; rw [s1.out.1, s1.out.2]; rintro e w' ⟨rfl, rfl⟩)
    | (go_at_call 8; refine (fit_any _ _).mono ?_; rw [s2.out.1, s2.out.2]; rintro e w' ⟨rfl, rfl⟩)
    | (go_at_call 10; refine (want_any _ _ _).mono ?_; rw [s3.out.1, s3.out.2]; rintro e w' ⟨rfl, rfl⟩))
  go_ret
  exact ⟨rfl, rfl⟩
end Go.Proofs.Ytabiihdcbpfoiaa
