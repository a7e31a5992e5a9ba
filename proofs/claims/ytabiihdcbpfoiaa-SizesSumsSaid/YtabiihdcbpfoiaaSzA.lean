/-
  SIZES OF HEAPS: their row, what fits, what is wanted; the program's functions on them.
-/
import Derived.Test.YtabiihdcbpfoiaaProg
import Derived.WalkKit
import Derived.WalkSpells
import Derived.Lib.Hide
import Derived.Below
namespace Go.Proofs.Ytabiihdcbpfoiaa
open Go.RowKit

/-- Two sizes, one behind the other. -/
def szp : Nat → Int × Int
  | 0 => (12, 20)
  | k + 1 => ((szp k).2, (szp k).1 + (szp k).2)
/-- The size with an index. -/
def sz (k : Nat) : Int := (szp k).1
set_option maxRecDepth 100000 in
theorem sz_next (k : Nat) : sz (k + 1) = (szp k).2 := rfl
set_option maxRecDepth 100000 in
theorem sz_two (k : Nat) : sz (k + 2) = sz k + sz (k + 1) := rfl
set_option maxRecDepth 100000 in
theorem sz_bd (k : Nat) : 12 ≤ sz k ∧ sz k < sz (k + 1) ∧ sz (k + 1) < 2 * sz k := by
  induction k with
  | zero => decide
  | succ k ih => have : sz (k + 1 + 1) = sz k + sz (k + 1) := sz_two k; omega
set_option maxRecDepth 100000 in
theorem sz_mono {j k : Nat} (h : j ≤ k) : sz j ≤ sz k := by
  induction h with
  | refl => exact Int.le_refl _
  | step _ ih => exact Int.le_trans ih (Int.le_of_lt (sz_bd _).2.1)
set_option maxRecDepth 100000 in
theorem sz_lt {j k : Nat} (h : j < k) : sz j < sz k := Int.lt_of_lt_of_le (sz_bd j).2.1 (sz_mono h)
set_option maxRecDepth 100000 in
theorem sz_26 : sz 26 = 3328160 := by decide
set_option maxRecDepth 100000 in
theorem sz_28 : sz 28 = 8713236 := by decide
set_option maxRecDepth 100000 in
theorem sz_top {k : Nat} (h : k ≤ 28) : sz k ≤ 8713236 := by have := sz_mono h; rw [sz_28] at this; exact this

/-- What Size answers. -/
def inB (i : Int) : Bool := decide (0 ≤ i) && decide (i ≤ 26)
def szV (i : Int) : Int := if inB i then sz i.toNat else 0
set_option maxRecDepth 100000 in
theorem szV_nat {k : Nat} (h : k ≤ 26) : inB (k : Int) = true ∧ szV (k : Int) = sz k := by
  have e : inB (k : Int) = true := by unfold inB; simp; omega
  refine ⟨e, ?_⟩
  unfold szV
  rw [if_pos e, Int.toNat_natCast]
set_option maxRecDepth 100000 in
theorem szV_no {i : Int} (h : i < 0 ∨ 26 < i) : inB i = false ∧ szV i = 0 := by
  have e : inB i = false := by unfold inB; rcases h with h | h <;> simp <;> omega
  refine ⟨e, ?_⟩
  unfold szV
  rw [e]
  rfl

/-- The index of the least size that is at least n. -/
def fK (n : Int) : Option Nat := (List.range 27).find? fun k => decide (n ≤ sz k)
def fV (n : Int) : Int := match fK n with | some k => sz k | none => 0
def fB (n : Int) : Bool := (fK n).isSome
set_option maxRecDepth 100000 in
theorem fits_some {n : Int} {k : Nat} (hk : k ≤ 26) (h : n ≤ sz k) (hl : ∀ j, j < k → sz j < n) : fV n = sz k ∧ fB n = true := by
  have e : fK n = some k := by
    unfold fK
    rw [List.find?_range_eq_some]
    refine ⟨by simpa using h, by simp; omega, fun j hj => ?_⟩
    have := hl j hj
    simp
    omega
  unfold fV fB
  rw [e]
  exact ⟨rfl, rfl⟩
set_option maxRecDepth 100000 in
theorem fits_none {n : Int} (h : sz 26 < n) : fV n = 0 ∧ fB n = false := by
  have e : fK n = none := by
    unfold fK
    rw [List.find?_range_eq_none]
    intro j hj
    have := sz_mono (show j ≤ 26 by omega)
    simp
    omega
  unfold fV fB
  rw [e]
  exact ⟨rfl, rfl⟩
set_option maxRecDepth 100000 in
theorem fits_least {n : Int} (h : n ≤ sz 26) : ∃ k, k ≤ 26 ∧ n ≤ sz k ∧ (∀ j, j < k → sz j < n) ∧ fV n = sz k ∧ fB n = true := by
  have : ∀ m : Nat, m ≤ 26 → n ≤ sz m → ∃ k, k ≤ m ∧ n ≤ sz k ∧ (∀ j, j < k → sz j < n) := by
    intro m
    induction m with
    | zero => intro _ h; exact ⟨0, Nat.le_refl _, h, fun j hj => absurd hj (by omega)⟩
    | succ m ih =>
      intro hm h
      by_cases g : n ≤ sz m
      · obtain ⟨k, a, b, c⟩ := ih (by omega) g
        exact ⟨k, by omega, b, c⟩
      · exact ⟨m + 1, Nat.le_refl _, h, fun j hj => by have := sz_mono (show j ≤ m by omega); omega⟩
  obtain ⟨k, a, b, c⟩ := this 26 (Nat.le_refl _) h
  exact ⟨k, a, b, c, (fits_some a b c).1, (fits_some a b c).2⟩
set_option maxRecDepth 100000 in
theorem fV_mono {m n : Int} (h : m ≤ n) (hn : n ≤ sz 26) : fV m ≤ fV n := by
  obtain ⟨k, a, b, c, d, _⟩ := fits_least hn
  obtain ⟨l, a', b', c', d', _⟩ := fits_least (Int.le_trans h hn)
  rw [d, d']
  apply sz_mono
  by_cases g : l ≤ k
  · exact g
  · have := c' k (by omega)
    omega

/-- What Want answers. -/
def okB (x : Int) : Bool := decide (0 ≤ x) && decide (x ≤ 1073741824)
def wB (l n : Int) : Bool := (okB l && okB n) && fB (4 * l + n)
def wV (l n : Int) : Int := if okB l && okB n then fV (4 * l + n) else 0

set_option maxRecDepth 100000 in
set_option maxHeartbeats 400000 in
theorem within9_any (a c : Int) (W : World) : Calls Try.prog 14 #[.int .i64 a, .int .i64 c] W fun e W' => e = .returned (.bool (decide (0 ≤ a) && decide (a ≤ c))) ∧ W = W' := by
  go_enter Try.func14, Try.ntmps14
  cases h1 : decide (0 ≤ a) <;> cases h2 : decide (a ≤ c)
  all_goals go_wp2
  all_goals go_ret
  all_goals exact ⟨rfl, rfl⟩

set_option maxRecDepth 100000 in
set_option maxHeartbeats 1000000 in
theorem size_any (i : Int) (W : World) : Calls Try.prog 6 #[.int .i64 i] W fun e W' => e = .returned (.tuple #[.int .i64 (szV i), .bool (inB i)]) ∧ W = W' := by
  by_cases h : i < 0 ∨ 26 < i
  · have H := Lib.hid (szV_no h)
    have G := Lib.hid (show (decide (0 ≤ i) && decide (i ≤ 26)) = false from (szV_no h).1)
    clear h
    go_enter Try.func6, Try.ntmps6
    go_wp2_with (go_at_call 14; refine (within9_any _ _ _).mono ?_; rintro e w' ⟨rfl, rfl⟩; rw [G.out])
    go_ret2
    rw [H.out.1, H.out.2]
    exact ⟨rfl, rfl⟩
  · obtain ⟨m, rfl⟩ : ∃ m : Nat, i = (m : Int) := ⟨i.toNat, by omega⟩
    have hm : m ≤ 26 := by omega
    have H := Lib.hid (szV_nat hm)
    have G := Lib.hid (show (decide ((0 : Int) ≤ (m : Int)) && decide ((m : Int) ≤ 26)) = true from (szV_nat hm).1)
    clear h
    go_enter Try.func6, Try.ntmps6
    go_wp2_with (go_at_call 14; refine (within9_any _ _ _).mono ?_; rintro e w' ⟨rfl, rfl⟩; rw [G.out])
    go_loop [4, 5, 10] (fun a b t => ∃ k : Nat, k ≤ m ∧ a = .int .i64 (sz k) ∧ b = .int .i64 (sz (k + 1)) ∧ t = .int .i64 k) (fun _ _ t => m - (intOf t).toNat)
    case atStart => exact ⟨0, Nat.zero_le _, rfl, rfl, rfl⟩
    case round =>
      obtain ⟨k, hk, rfl, rfl, rfl⟩ := hrel
      by_cases hlt : k < m
      · have b0 := (sz_bd k).1
        have b1 := (sz_bd (k + 1)).1
        have b2 := sz_top (show k ≤ 28 by omega)
        have b3 := sz_top (show k + 1 ≤ 28 by omega)
        have E := Lib.hid (sz_two k)
        go_wp2
        go_round
        case rel => exact ⟨k + 1, by omega, rfl, by rw [E.out], by go_num⟩
        case measure => simp [intOf]; omega
      · have e : k = m := by omega
        subst e
        go_wp2
        go_ret2
        rw [H.out.1, H.out.2]
        exact ⟨rfl, rfl⟩

set_option maxRecDepth 100000 in
set_option maxHeartbeats 1000000 in
theorem fit_any (n : Int) (W : World) : Calls Try.prog 8 #[.int .i64 n] W fun e W' => e = .returned (.tuple #[.int .i64 (fV n), .bool (fB n)]) ∧ W = W' := by
  go_enter Try.func8, Try.ntmps8
  go_wp2
  go_loop [4, 5, 6] (fun a b t => ∃ k : Nat, k ≤ 27 ∧ (∀ j, j < k → sz j < n) ∧ a = .int .i64 (sz k) ∧ b = .int .i64 (sz (k + 1)) ∧ t = .int .i64 k) (fun _ _ t => 27 - (intOf t).toNat)
  case atStart => exact ⟨0, Nat.zero_le _, fun j hj => absurd hj (by omega), rfl, rfl, rfl⟩
  case round =>
    obtain ⟨k, hk, hl, rfl, rfl, rfl⟩ := hrel
    by_cases hlt : k < 27
    · have b0 := (sz_bd k).1
      have b1 := (sz_bd (k + 1)).1
      have b2 := sz_top (show k ≤ 28 by omega)
      have b3 := sz_top (show k + 1 ≤ 28 by omega)
      have E := Lib.hid (sz_two k)
      by_cases g : n ≤ sz k
      · have F := Lib.hid (fits_some (by omega) g hl)
        clear hl
        go_wp2
        go_ret2
        rw [F.out.1, F.out.2]
        exact ⟨rfl, rfl⟩
      · have L := Lib.hid (show ∀ j, j < k + 1 → sz j < n from fun j hj => by
          by_cases e : j = k
          · subst e; omega
          · exact hl j (by omega))
        clear hl
        go_wp2
        go_round
        case rel => exact ⟨k + 1, by omega, L.out, rfl, by rw [E.out], by go_num⟩
        case measure => simp [intOf]; omega
    · have F := Lib.hid (fits_none (hl 26 (by omega)))
      clear hl
      go_wp2
      go_ret2
      rw [F.out.1, F.out.2]
      exact ⟨rfl, rfl⟩

set_option maxRecDepth 100000 in
theorem ok_bd {x : Int} (h : okB x = true) : 0 ≤ x ∧ x ≤ 1073741824 := by
  unfold okB at h
  simp only [Bool.and_eq_true, decide_eq_true_eq] at h
  exact h

set_option maxRecDepth 100000 in
set_option maxHeartbeats 1000000 in
theorem want_any (l n : Int) (W : World) : Calls Try.prog 10 #[.int .i64 l, .int .i64 n] W fun e W' => e = .returned (.tuple #[.int .i64 (wV l n), .bool (wB l n)]) ∧ W = W' := by
  unfold wV wB
  cases g1 : okB l
  · have G := Lib.hid (show (decide (0 ≤ l) && decide (l ≤ 1073741824)) = false from g1)
    clear g1
    go_enter Try.func10, Try.ntmps10
    go_wp2_with (go_at_call 14; refine (within9_any _ _ _).mono ?_; rintro e w' ⟨rfl, rfl⟩; rw [G.out])
    go_ret2
    exact ⟨rfl, rfl⟩
  · cases g2 : okB n
    · have G := Lib.hid (show (decide (0 ≤ l) && decide (l ≤ 1073741824)) = true from g1)
      have G2 := Lib.hid (show (decide (0 ≤ n) && decide (n ≤ 1073741824)) = false from g2)
      clear g1 g2
      go_enter Try.func10, Try.ntmps10
      go_wp2_with (go_at_call 14; refine (within9_any _ _ _).mono ?_; rintro e w' ⟨rfl, rfl⟩; first | rw [G.out] | rw [G2.out])
      go_ret2
      exact ⟨rfl, rfl⟩
    · have G := Lib.hid (show (decide (0 ≤ l) && decide (l ≤ 1073741824)) = true from g1)
      have G2 := Lib.hid (show (decide (0 ≤ n) && decide (n ≤ 1073741824)) = true from g2)
      have b1 := ok_bd g1
      have b2 := ok_bd g2
      clear g1 g2
      go_enter Try.func10, Try.ntmps10
      go_wp2_with (first | (go_at_call 14; refine (within9_any _ _ _).mono ?_; rintro e w' ⟨rfl, rfl⟩; first | rw [G.out] | rw [G2.out]) | (go_at_call 8; refine (fit_any _ _).mono ?_; rintro e w' ⟨rfl, rfl⟩))
      go_ret2
      exact ⟨rfl, rfl⟩
end Go.Proofs.Ytabiihdcbpfoiaa
