/-
  WORDS: their tags and loads, and the program's functions on them.
-/
import Derived.Test.YthniiamlfhigaaaProg
import Derived.WalkKit
import Derived.WalkSpells
import Derived.Lib.Hide
import Derived.Lib.BitFns
import Derived.Below
import Derived.BigQuiet
import Derived.Deep.QuietTactic
import Derived.Deep.Draws
namespace Go.Proofs.Ythniiamlfhigaaa
open Go.RowKit

/-- A word of 64 bits. -/
def Wd (w : Int) : Prop := 0 ≤ w ∧ w ≤ 18446744073709551615
/-- An int of 64 bits. -/
def In (x : Int) : Prop := -9223372036854775808 ≤ x ∧ x ≤ 9223372036854775807
/-- Load of a word. -/
def ldZ (w : Int) : Int := if w % 8 = 0 then (if w ≤ 9223372036854775807 then w else w - 18446744073709551616) / 8 else w / 8
/-- Which loads a tag permits. -/
def pmB (t l : Int) : Bool :=
  if t = 0 then decide (-1152921504606846976 ≤ l) && decide (l ≤ 1152921504606846975)
  else if t = 1 then decide (0 ≤ l) && decide (l ≤ 255)
  else if t = 2 then decide (0 ≤ l) && decide (l ≤ 63)
  else if t = 3 then decide (l = 0)
  else decide (4 ≤ t) && decide (t ≤ 7) && (decide (0 ≤ l) && decide (l ≤ 1152921504606846975))
def mkZ (t l : Int) : Int := l * 8 % 18446744073709551616 + t
def hdB (k s : Int) : Bool := (decide (0 ≤ k) && decide (k ≤ 5)) && (decide (0 ≤ s) && decide (s ≤ 1048576))
def hdZ (k s : Int) : Int := (s * 8 + k) * 8 + 6
def ptB (w : Int) : Bool := decide (w % 8 = 6) && hdB (w / 8 % 8) (w / 64)
def plB (w : Int) : Bool := decide (w % 8 ≤ 5) && pmB (w % 8) (ldZ w)

set_option maxRecDepth 100000 in
theorem pm_in {t l : Int} (h : pmB t l = true) : (0 ≤ t ∧ t ≤ 7) ∧ -1152921504606846976 ≤ l ∧ l ≤ 1152921504606846975 := by
  unfold pmB at h
  repeat' split at h
  all_goals simp only [Bool.and_eq_true, decide_eq_true_eq] at h
  all_goals omega
set_option maxRecDepth 100000 in
theorem ld_mk {t l : Int} (h : pmB t l = true) : ldZ (mkZ t l) = l := by
  have h0 := pm_in h
  unfold ldZ mkZ
  by_cases e : t = 0
  · rw [if_pos (by omega)]
    split <;> omega
  · have : 0 ≤ l := by
      unfold pmB at h
      rw [if_neg e] at h
      repeat' split at h
      all_goals simp only [Bool.and_eq_true, decide_eq_true_eq] at h
      all_goals omega
    rw [if_neg (by omega)]
    omega
set_option maxRecDepth 100000 in
theorem tag_mk {t l : Int} (h : pmB t l = true) : mkZ t l % 8 = t := by
  have h0 := pm_in h
  unfold mkZ
  omega
set_option maxRecDepth 100000 in
theorem mk_wd {t l : Int} (h : pmB t l = true) : Wd (mkZ t l) := by
  have h0 := pm_in h
  unfold mkZ Wd
  omega
set_option maxRecDepth 100000 in
theorem hd_wd {k s : Int} (h : hdB k s = true) : Wd (hdZ k s) := by
  simp only [hdB, Bool.and_eq_true, decide_eq_true_eq] at h
  unfold hdZ Wd
  omega
set_option maxRecDepth 100000 in
theorem pl_mk {t l : Int} (h : pmB t l = true) : plB (mkZ t l) = decide (t ≤ 5) := by
  unfold plB
  rw [tag_mk h, ld_mk h, h, Bool.and_true]
set_option maxRecDepth 100000 in
theorem pt_hd {k s : Int} (h : hdB k s = true) : ptB (hdZ k s) = true ∧ hdZ k s / 8 % 8 = k ∧ hdZ k s / 64 = s ∧ hdZ k s % 8 = 6 := by
  have h0 := h
  simp only [hdB, Bool.and_eq_true, decide_eq_true_eq] at h
  have e1 : hdZ k s / 8 % 8 = k := by unfold hdZ; omega
  have e2 : hdZ k s / 64 = s := by unfold hdZ; omega
  have e3 : hdZ k s % 8 = 6 := by unfold hdZ; omega
  refine ⟨?_, e1, e2, e3⟩
  unfold ptB
  rw [e1, e2, e3, h0]
  rfl
set_option maxRecDepth 100000 in
theorem mk_back {w : Int} (h : Wd w) : mkZ (w % 8) (ldZ w) = w := by
  unfold Wd at h
  unfold mkZ ldZ
  split
  · split <;> omega
  · omega

set_option maxRecDepth 100000 in
set_option maxHeartbeats 400000 in
theorem within_any (a b c : Int) (W : World) : Calls Try.prog 21 #[.int .i64 a, .int .i64 b, .int .i64 c] W fun e W' => e = .returned (.bool (decide (b ≤ a) && decide (a ≤ c))) ∧ W = W' := by
  go_enter Try.func21, Try.ntmps21
  cases h1 : decide (b ≤ a) <;> cases h2 : decide (a ≤ c)
  all_goals go_wp2
  all_goals go_ret
  all_goals exact ⟨rfl, rfl⟩

set_option maxRecDepth 100000 in
set_option maxHeartbeats 400000 in
theorem isHead_any (k s : Int) (W : World) : Calls Try.prog 20 #[.int .i64 k, .int .i64 s] W fun e W' => e = .returned (.bool (hdB k s)) ∧ W = W' := by
  unfold hdB
  generalize hA : (decide (0 ≤ k) && decide (k ≤ 5)) = A
  generalize hB : (decide (0 ≤ s) && decide (s ≤ 1048576)) = B
  have hA := Lib.hid hA
  have hB := Lib.hid hB
  go_enter Try.func20, Try.ntmps20
  cases A <;> cases B
  all_goals go_wp2_with (go_at_call 21; refine (within_any _ _ _ _).mono ?_; rintro e w' ⟨rfl, rfl⟩; try rw [hA.out]; try rw [hB.out])
  all_goals go_ret
  all_goals exact ⟨rfl, rfl⟩

set_option maxRecDepth 100000 in
set_option maxHeartbeats 400000 in
theorem tag_any (w : Int) (h : Wd w) (W : World) : Calls Try.prog 11 #[.int .u64 w] W fun e W' => e = .returned (.int .i64 (w % 8)) ∧ W = W' := by
  unfold Wd at h
  have H := Lib.hid h
  clear h
  go_enter Try.func11, Try.ntmps11
  go_wp2
  go_ret
  have h := H.out
  rw [show wrap64 (IntKind.u64.wrap (w * 2305843009213693952) / 2305843009213693952) = w % 8 by rw [IntKind.wrap_u64]; simp only [wrap64]; omega]
  exact ⟨rfl, rfl⟩

set_option maxRecDepth 100000 in
theorem or_tag {l t : Int} (hl : 0 ≤ l) (hl2 : l * 8 ≤ 18446744073709551615) (ht : 0 ≤ t) (ht2 : t ≤ 7) : bits .or .u64 (l * 8) t = l * 8 + t := by
  obtain ⟨y, rfl⟩ : ∃ y : Nat, l = (y : Int) := ⟨l.toNat, by omega⟩
  obtain ⟨d, rfl⟩ : ∃ d : Nat, t = (d : Int) := ⟨t.toNat, by omega⟩
  have e : (y : Int) * 8 = ((y * 8 : Nat) : Int) := by simp
  have h2 : (y * 8 ||| d) = y * 8 + d := by
    have h3 := Nat.two_pow_add_eq_or_of_lt (i := 3) (b := d) (by omega) y
    rw [Nat.mul_comm y 8]
    exact h3.symm
  rw [e, u64_or _ _ (by omega) (by omega) (by omega) (by omega), Int.toNat_natCast, Int.toNat_natCast, h2]
  omega

set_option maxRecDepth 100000 in
set_option maxHeartbeats 400000 in
theorem joined_any (t l : Int) (h : 0 ≤ t ∧ t ≤ 7) (W : World) : Calls Try.prog 19 #[.int .i64 t, .int .i64 l] W fun e W' => e = .returned (.int .u64 (mkZ t l)) ∧ W = W' := by
  have H := Lib.hid h
  clear h
  go_enter Try.func19, Try.ntmps19
  go_wp2
  go_ret
  have h := H.out
  have e1 : IntKind.u64.wrap (IntKind.u64.wrap l * 8) = l % 2305843009213693952 * 8 := by rw [IntKind.wrap_u64, IntKind.wrap_u64]; omega
  have e2 : IntKind.u64.wrap t = t := by rw [IntKind.wrap_u64]; omega
  rw [e1, e2, or_tag (by omega) (by omega) h.1 h.2, show l % 2305843009213693952 * 8 + t = mkZ t l by unfold mkZ; omega]
  exact ⟨rfl, rfl⟩

set_option maxRecDepth 100000 in
set_option maxHeartbeats 400000 in
theorem load_any (w : Int) (h : Wd w) (W : World) : Calls Try.prog 13 #[.int .u64 w] W fun e W' => e = .returned (.int .i64 (ldZ w)) ∧ W = W' := by
  have H := Lib.hid h
  by_cases e : w % 8 = 0
  · have h0 : (w % 8 == 0) = true := by rw [beq_iff_eq]; exact e
    have E := Lib.hid e
    clear e h
    go_enter Try.func13, Try.ntmps13
    go_wp2_with (go_at_call 11; refine (tag_any _ H.out _).mono ?_; rintro e w' ⟨rfl, rfl⟩)
    go_ret
    have h := H.out
    have e := E.out
    unfold Wd at h
    rw [show wrap64 w / 8 = ldZ w by unfold ldZ; rw [if_pos e]; simp only [wrap64]; split <;> omega]
    exact ⟨rfl, rfl⟩
  · have h0 : (w % 8 == 0) = false := by rw [beq_eq_false_iff_ne]; exact e
    have E := Lib.hid e
    clear e h
    go_enter Try.func13, Try.ntmps13
    go_wp2_with (go_at_call 11; refine (tag_any _ H.out _).mono ?_; rintro e w' ⟨rfl, rfl⟩)
    go_ret
    have h := H.out
    have e := E.out
    unfold Wd at h
    rw [show wrap64 (w / 8) = ldZ w by unfold ldZ; rw [if_neg e]; simp only [wrap64]; omega]
    exact ⟨rfl, rfl⟩

set_option maxRecDepth 100000 in
set_option maxHeartbeats 1000000 in
theorem permits_any (t l : Int) (W : World) : Calls Try.prog 18 #[.int .i64 t, .int .i64 l] W fun e W' => e = .returned (.bool (pmB t l)) ∧ W = W' := by
  by_cases e0 : t = 0
  · subst e0
    go_enter Try.func18, Try.ntmps18
    go_wp2_with (go_at_call 21; refine (within_any _ _ _ _).mono ?_; rintro e w' ⟨rfl, rfl⟩)
    go_ret
    exact ⟨rfl, rfl⟩
  by_cases e1 : t = 1
  · subst e1
    go_enter Try.func18, Try.ntmps18
    go_wp2_with (go_at_call 21; refine (within_any _ _ _ _).mono ?_; rintro e w' ⟨rfl, rfl⟩)
    go_ret
    exact ⟨rfl, rfl⟩
  by_cases e2 : t = 2
  · subst e2
    go_enter Try.func18, Try.ntmps18
    go_wp2_with (go_at_call 21; refine (within_any _ _ _ _).mono ?_; rintro e w' ⟨rfl, rfl⟩)
    go_ret
    exact ⟨rfl, rfl⟩
  by_cases e3 : t = 3
  · subst e3
    go_enter Try.func18, Try.ntmps18
    go_wp2
    go_ret
    exact ⟨rfl, rfl⟩
  by_cases e4 : 4 ≤ t ∧ t ≤ 7
  · obtain e | e | e | e : t = 4 ∨ t = 5 ∨ t = 6 ∨ t = 7 := by omega
    all_goals subst e
    all_goals clear e0 e1 e2 e3 e4
    all_goals go_enter Try.func18, Try.ntmps18
    all_goals go_wp2_with (go_at_call 21; refine (within_any _ _ _ _).mono ?_; rintro e w' ⟨rfl, rfl⟩)
    all_goals go_ret
    all_goals exact ⟨rfl, rfl⟩
  have n0 : (t == 0) = false := by rw [beq_eq_false_iff_ne]; exact e0
  have n1 : (t == 1) = false := by rw [beq_eq_false_iff_ne]; exact e1
  have n2 : (t == 2) = false := by rw [beq_eq_false_iff_ne]; exact e2
  have n3 : (t == 3) = false := by rw [beq_eq_false_iff_ne]; exact e3
  have n4 : (t == 4) = false := by rw [beq_eq_false_iff_ne]; omega
  have n5 : (t == 5) = false := by rw [beq_eq_false_iff_ne]; omega
  have n6 : (t == 6) = false := by rw [beq_eq_false_iff_ne]; omega
  have n7 : (t == 7) = false := by rw [beq_eq_false_iff_ne]; omega
  have fin : Hid (pmB t l = false) := Lib.hid (by
    unfold pmB
    rw [if_neg e0, if_neg e1, if_neg e2, if_neg e3]
    by_cases h4 : 4 ≤ t
    · have : ¬ t ≤ 7 := fun h => e4 ⟨h4, h⟩
      simp [this]
    · simp [h4])
  clear e0 e1 e2 e3 e4
  go_enter Try.func18, Try.ntmps18
  go_wp2
  go_ret
  rw [fin.out]
  exact ⟨rfl, rfl⟩

set_option maxRecDepth 100000 in
set_option maxHeartbeats 400000 in
theorem make_any (t l : Int) (W : World) : Calls Try.prog 5 #[.int .i64 t, .int .i64 l] W fun e W' => e = .returned (.tuple #[.int .u64 (if pmB t l then mkZ t l else 0), .bool (pmB t l)]) ∧ W = W' := by
  cases h : pmB t l
  · have H := Lib.hid h
    clear h
    go_enter Try.func5, Try.ntmps5
    go_wp2_with (go_at_call 18; refine (permits_any _ _ _).mono ?_; rintro e w' ⟨rfl, rfl⟩; rw [H.out])
    go_ret2
    exact ⟨rfl, rfl⟩
  · have H := Lib.hid h
    have H2 := Lib.hid (pm_in h).1
    clear h
    go_enter Try.func5, Try.ntmps5
    go_wp2_with (first | (go_at_call 18; refine (permits_any _ _ _).mono ?_; rintro e w' ⟨rfl, rfl⟩; rw [H.out]) | (go_at_call 19; refine (joined_any _ _ H2.out _).mono ?_; rintro e w' ⟨rfl, rfl⟩))
    go_ret2
    exact ⟨rfl, rfl⟩

set_option maxRecDepth 100000 in
theorem i64_or_nat (a b : Nat) (ha : a < 4611686018427387904) (hb : b < 4611686018427387904) : bits .or .i64 (a : Int) (b : Int) = ((a ||| b : Nat) : Int) := by
  have hx : a ||| b < 2 ^ 62 := Nat.or_lt_two_pow (by omega) (by omega)
  show IntKind.i64.wrap ((BitVec.ofInt 64 (a : Int) ||| BitVec.ofInt 64 (b : Int)).toNat : Int) = _
  rw [BitVec.toNat_or, ofInt_u64 a (by omega), ofInt_u64 b (by omega), IntWalk.i64_in _ (by omega)]
set_option maxRecDepth 100000 in
theorem or_kind {k s : Int} (h : hdB k s = true) : bits .or .i64 (wrap64 (s * 8)) k = s * 8 + k := by
  simp only [hdB, Bool.and_eq_true, decide_eq_true_eq] at h
  rw [show wrap64 (s * 8) = s * 8 by simp only [wrap64]; omega]
  obtain ⟨y, rfl⟩ : ∃ y : Nat, s = (y : Int) := ⟨s.toNat, by omega⟩
  obtain ⟨d, rfl⟩ : ∃ d : Nat, k = (d : Int) := ⟨k.toNat, by omega⟩
  have e : (y : Int) * 8 = ((y * 8 : Nat) : Int) := by simp
  have h2 : (y * 8 ||| d) = y * 8 + d := by
    have h3 := Nat.two_pow_add_eq_or_of_lt (i := 3) (b := d) (by omega) y
    rw [Nat.mul_comm y 8]
    exact h3.symm
  rw [e, i64_or_nat _ _ (by omega) (by omega), h2]
  omega
set_option maxRecDepth 100000 in
theorem mk_hd {k s : Int} (h : hdB k s = true) : mkZ 6 (s * 8 + k) = hdZ k s := by
  simp only [hdB, Bool.and_eq_true, decide_eq_true_eq] at h
  unfold mkZ hdZ
  omega

set_option maxRecDepth 100000 in
set_option maxHeartbeats 400000 in
theorem head_any (k s : Int) (W : World) : Calls Try.prog 7 #[.int .i64 k, .int .i64 s] W fun e W' => e = .returned (.tuple #[.int .u64 (if hdB k s then hdZ k s else 0), .bool (hdB k s)]) ∧ W = W' := by
  cases h : hdB k s
  · have H := Lib.hid h
    clear h
    go_enter Try.func7, Try.ntmps7
    go_wp2_with (go_at_call 20; refine (isHead_any _ _ _).mono ?_; rintro e w' ⟨rfl, rfl⟩; rw [H.out])
    go_ret2
    exact ⟨rfl, rfl⟩
  · have H := Lib.hid h
    clear h
    go_enter Try.func7, Try.ntmps7
    go_wp2_with (first | (go_at_call 20; refine (isHead_any _ _ _).mono ?_; rintro e w' ⟨rfl, rfl⟩; rw [H.out]) | (go_at_call 19; refine (joined_any _ _ (by omega) _).mono ?_; rintro e w' ⟨rfl, rfl⟩))
    rw [or_kind H.out, mk_hd H.out]
    go_ret2
    exact ⟨rfl, rfl⟩

set_option maxRecDepth 100000 in
theorem pt_kind {w : Int} (h : Wd w) (e : w % 8 = 6) : wrap64 (ldZ w - wrap64 (ldZ w / 8 * 8)) = w / 8 % 8 := by
  have h0 : 0 ≤ w ∧ w ≤ 18446744073709551615 := h
  clear h
  unfold ldZ
  rw [if_neg (by omega)]
  simp only [wrap64]
  omega
set_option maxRecDepth 100000 in
theorem pt_size {w : Int} (e : w % 8 = 6) : ldZ w / 8 = w / 64 := by
  unfold ldZ
  rw [if_neg (by omega)]
  omega
set_option maxRecDepth 100000 in
set_option maxHeartbeats 1000000 in
theorem parts_any (w : Int) (h : Wd w) (W : World) : Calls Try.prog 9 #[.int .u64 w] W fun e W' => e = .returned (.tuple #[.int .i64 (if ptB w then w / 8 % 8 else 0), .int .i64 (if ptB w then w / 64 else 0), .bool (ptB w)]) ∧ Below W.heap.size W W' := by
  have H := Lib.hid h
  by_cases e : w % 8 = 6
  · have n1 : (w % 8 != 6) = false := by rw [e]; rfl
    have f1 := Lib.hid (pt_kind h e)
    have f2 := Lib.hid (pt_size e)
    have f3 : ptB w = hdB (w / 8 % 8) (w / 64) := by unfold ptB; rw [e]; rfl
    cases g : hdB (w / 8 % 8) (w / 64)
    · have G := Lib.hid g
      rw [g] at f3
      clear g h e
      rw [f3]
      clear f3
      go_enter Try.func9, Try.ntmps9
      go_wp2_with (first | (go_at_call 11; refine (tag_any _ H.out _).mono ?_; rintro e w' ⟨rfl, rfl⟩) | (go_at_call 13; refine (load_any _ H.out _).mono ?_; rintro e w' ⟨rfl, rfl⟩) | (go_at_call 20; refine (isHead_any _ _ _).mono ?_; rintro e w' ⟨rfl, rfl⟩; rw [f1.out, f2.out, G.out]))
      go_ret3
      exact ⟨rfl, by first | exact Below.refl _ _ | exact (Below.refl _ _).drew⟩
    · have G := Lib.hid g
      rw [g] at f3
      clear g h e
      rw [f3]
      clear f3
      go_enter Try.func9, Try.ntmps9
      go_wp2_with (first | (go_at_call 11; refine (tag_any _ H.out _).mono ?_; rintro e w' ⟨rfl, rfl⟩) | (go_at_call 13; refine (load_any _ H.out _).mono ?_; rintro e w' ⟨rfl, rfl⟩) | (go_at_call 20; refine (isHead_any _ _ _).mono ?_; rintro e w' ⟨rfl, rfl⟩; rw [f1.out, f2.out, G.out]))
      go_ret3
      exact ⟨rfl, by first | exact Below.refl _ _ | exact (Below.refl _ _).drew⟩
  · have n1 : (w % 8 != 6) = true := by rw [bne_iff_ne]; exact e
    have f3 : ptB w = false := by unfold ptB; simp [e]
    clear e h
    rw [f3]
    clear f3
    go_enter Try.func9, Try.ntmps9
    go_wp2_with (first | (go_at_call 11; refine (tag_any _ H.out _).mono ?_; rintro e w' ⟨rfl, rfl⟩) | (go_at_call 13; refine (load_any _ H.out _).mono ?_; rintro e w' ⟨rfl, rfl⟩))
    go_ret3
    exact ⟨rfl, by first | exact Below.refl _ _ | exact (Below.refl _ _).drew⟩

set_option maxRecDepth 100000 in
set_option maxHeartbeats 1000000 in
theorem plain_any (w : Int) (h : Wd w) (W : World) : Calls Try.prog 15 #[.int .u64 w] W fun e W' => e = .returned (.bool (plB w)) ∧ Below W.heap.size W W' := by
  have H := Lib.hid h
  cases g : decide (w % 8 ≤ 5)
  · have f3 : Hid (plB w = false) := Lib.hid (by unfold plB; rw [g]; rfl)
    clear h
    go_enter Try.func15, Try.ntmps15
    go_wp2_with (first | (go_at_call 11; refine (tag_any _ H.out _).mono ?_; rintro e w' ⟨rfl, rfl⟩) | (go_at_call 13; refine (load_any _ H.out _).mono ?_; rintro e w' ⟨rfl, rfl⟩) | (go_at_call 18; refine (permits_any _ _ _).mono ?_; rintro e w' ⟨rfl, rfl⟩))
    go_ret
    rw [f3.out]
    exact ⟨rfl, by first | exact Below.refl _ _ | exact (Below.refl _ _).drew⟩
  · have f3 : Hid (plB w = pmB (w % 8) (ldZ w)) := Lib.hid (by unfold plB; rw [g]; rfl)
    clear h
    go_enter Try.func15, Try.ntmps15
    go_wp2_with (first | (go_at_call 11; refine (tag_any _ H.out _).mono ?_; rintro e w' ⟨rfl, rfl⟩) | (go_at_call 13; refine (load_any _ H.out _).mono ?_; rintro e w' ⟨rfl, rfl⟩) | (go_at_call 18; refine (permits_any _ _ _).mono ?_; rintro e w' ⟨rfl, rfl⟩))
    go_ret
    rw [f3.out]
    exact ⟨rfl, by first | exact Below.refl _ _ | exact (Below.refl _ _).drew⟩
end Go.Proofs.Ythniiamlfhigaaa
