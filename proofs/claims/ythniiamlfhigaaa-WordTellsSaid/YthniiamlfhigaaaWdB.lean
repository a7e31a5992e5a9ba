/-
  WORDS: the reference's functions.
-/
import Derived.Test.YthniiamlfhigaaaWdA
namespace Go.Proofs.Ythniiamlfhigaaa
open Go.RowKit

set_option maxRecDepth 100000 in
set_option maxHeartbeats 400000 in
theorem refTag_any (w : Int) (h : Wd w) (W : World) : Calls Try.prog 12 #[.int .u64 w] W fun e W' => e = .returned (.int .i64 (w % 8)) ∧ W = W' := by
  unfold Wd at h
  have h1 := h.1
  have E : wrap64 (w % 8) = w % 8 := by simp only [wrap64]; omega
  have E := Lib.hid E
  have E2 := Lib.hid (Int.tmod_eq_emod_of_nonneg (b := 8) h1)
  clear h h1
  go_enter Try.func12, Try.ntmps12
  go_wp2
  go_ret
  rw [E2.out, E.out]
  exact ⟨rfl, rfl⟩

set_option maxRecDepth 100000 in
set_option maxHeartbeats 400000 in
theorem refLoad_any (w : Int) (h : Wd w) (W : World) : Calls Try.prog 14 #[.int .u64 w] W fun e W' => e = .returned (.int .i64 (ldZ w)) ∧ W = W' := by
  have hw := Lib.hid h
  unfold Wd at h
  have h1 := h.1
  have LD : Hid (wrap64 (ldZ w) = ldZ w) := Lib.hid (by unfold ldZ; simp only [wrap64]; split <;> (try split) <;> omega)
  have WD : Hid (IntKind.u64.wrap (w / 8) = w / 8) := Lib.hid (by rw [IntKind.wrap_u64]; omega)
  have E2 := Int.tmod_eq_emod_of_nonneg (b := 8) h1
  have E3 := Lib.hid (Int.tdiv_eq_ediv_of_nonneg (b := 8) h1)
  by_cases e : w % 8 = 0
  · have h0 : (w.tmod 8 == 0) = true := by rw [beq_iff_eq, E2]; exact e
    have fin : Hid ((wrap64 w).tdiv 8 = ldZ w) := Lib.hid (by
      unfold ldZ
      rw [if_pos e]
      split
      · rename_i hx
        rw [show wrap64 w = w by simp only [wrap64]; omega]
        exact Int.tdiv_eq_ediv_of_nonneg h1
      · rename_i hx
        rw [show wrap64 w = w - 18446744073709551616 by simp only [wrap64]; omega]
        obtain ⟨y, hy⟩ : ∃ y, w - 18446744073709551616 = 8 * y := ⟨(w - 18446744073709551616) / 8, by omega⟩
        rw [hy, Int.mul_tdiv_cancel_left _ (by decide), Int.mul_ediv_cancel_left _ (by decide)])
    clear e h E2 h1
    go_enter Try.func14, Try.ntmps14
    go_wp2
    go_ret
    rw [fin.out, LD.out]
    exact ⟨rfl, rfl⟩
  · have h0 : (w.tmod 8 == 0) = false := by rw [beq_eq_false_iff_ne, E2]; exact e
    have fin : Hid (wrap64 (w / 8) = ldZ w) := Lib.hid (by unfold ldZ; rw [if_neg e]; simp only [wrap64]; omega)
    clear e h E2 h1
    go_enter Try.func14, Try.ntmps14
    go_wp2
    go_ret
    rw [E3.out, WD.out, fin.out]
    exact ⟨rfl, rfl⟩

set_option maxRecDepth 100000 in
theorem mk_ref {t l : Int} (h : pmB t l = true) : IntKind.u64.wrap (IntKind.u64.wrap (IntKind.u64.wrap l * 8) + IntKind.u64.wrap t) = mkZ t l := by
  have h0 := pm_in h
  simp only [IntKind.wrap_u64]
  unfold mkZ
  omega

set_option maxRecDepth 100000 in
set_option maxHeartbeats 400000 in
theorem refHead_any (k s : Int) (W : World) : Calls Try.prog 8 #[.int .i64 k, .int .i64 s] W fun e W' => e = .returned (.tuple #[.int .u64 (if hdB k s then hdZ k s else 0), .bool (hdB k s)]) ∧ W = W' := by
  by_cases h1 : k < 0
  · have fin : hdB k s = false := by unfold hdB; simp [show ¬ (0 ≤ k) by omega]
    rw [fin]
    clear fin
    go_enter Try.func8, Try.ntmps8
    go_wp2
    go_ret2
    exact ⟨rfl, rfl⟩
  by_cases h2 : k > 5
  · have fin : hdB k s = false := by unfold hdB; simp [show ¬ (k ≤ 5) by omega]
    rw [fin]
    clear fin
    go_enter Try.func8, Try.ntmps8
    go_wp2
    go_ret2
    exact ⟨rfl, rfl⟩
  by_cases h3 : s < 0
  · have fin : hdB k s = false := by unfold hdB; simp [show ¬ (0 ≤ s) by omega]
    rw [fin]
    clear fin
    go_enter Try.func8, Try.ntmps8
    go_wp2
    go_ret2
    exact ⟨rfl, rfl⟩
  by_cases h4 : s > 1048576
  · have fin : hdB k s = false := by unfold hdB; simp [show ¬ (s ≤ 1048576) by omega]
    rw [fin]
    clear fin
    go_enter Try.func8, Try.ntmps8
    go_wp2
    go_ret2
    exact ⟨rfl, rfl⟩
  have fin : hdB k s = true := by unfold hdB; simp [show 0 ≤ k by omega, show k ≤ 5 by omega, show 0 ≤ s by omega, show s ≤ 1048576 by omega]
  rw [fin]
  clear fin
  go_enter Try.func8, Try.ntmps8
  go_wp2
  go_ret2
  exact ⟨rfl, rfl⟩

/-- Make's bounds. -/
def loZ (t : Int) : Int := if t = 0 then -1152921504606846976 else 0
def hiZ (t : Int) : Int := if t = 3 then 0 else if t = 1 then 255 else if t = 2 then 63 else 1152921504606846975
set_option maxRecDepth 100000 in
theorem pm_lohi (t l : Int) : pmB t l = (decide (0 ≤ t) && decide (t ≤ 7) && decide (loZ t ≤ l) && decide (l ≤ hiZ t)) := by
  rw [Bool.eq_iff_iff]
  unfold pmB loZ hiZ
  by_cases e0 : t = 0
  · subst e0; simp
  by_cases e1 : t = 1
  · subst e1; simp
  by_cases e2 : t = 2
  · subst e2; simp
  by_cases e3 : t = 3
  · subst e3; simp; omega
  simp [e0, e1, e2, e3]
  omega

set_option maxRecDepth 100000 in
theorem refMake_any (t l : Int) (W : World) : Calls Try.prog 6 #[.int .i64 t, .int .i64 l] W fun e W' => e = .returned (.tuple #[.int .u64 (if pmB t l then mkZ t l else 0), .bool (pmB t l)]) ∧ W = W' := by
  by_cases e0 : t = 0
  · subst e0
    by_cases h1 : l < -1152921504606846976
    · have fin : pmB 0 l = false := by rw [pm_lohi]; unfold loZ hiZ; simp [show ¬ -1152921504606846976 ≤ l by omega]
      rw [fin]
      clear fin
      go_enter Try.func6, Try.ntmps6
      go_wp2
      go_ret2
      exact ⟨rfl, rfl⟩
    by_cases h2 : l > 1152921504606846975
    · have fin : pmB 0 l = false := by rw [pm_lohi]; unfold loZ hiZ; simp [show ¬ l ≤ 1152921504606846975 by omega]
      rw [fin]
      clear fin
      go_enter Try.func6, Try.ntmps6
      go_wp2
      go_ret2
      exact ⟨rfl, rfl⟩
    have fin : pmB 0 l = true := by rw [pm_lohi]; unfold loZ hiZ; simp [show -1152921504606846976 ≤ l by omega, show l ≤ 1152921504606846975 by omega]
    have mk : Hid (mkZ 0 l = IntKind.u64.wrap (IntKind.u64.wrap (IntKind.u64.wrap l * 8))) := Lib.hid (by simp only [IntKind.wrap_u64]; unfold mkZ; omega)
    rw [fin]
    clear fin
    go_enter Try.func6, Try.ntmps6
    go_wp2
    rw [mk.out]
    go_ret2
    exact ⟨rfl, rfl⟩
  by_cases e1 : t = 1
  · subst e1
    by_cases h1 : l < 0
    · have fin : pmB 1 l = false := by rw [pm_lohi]; unfold loZ hiZ; simp [show ¬ 0 ≤ l by omega]
      rw [fin]
      clear fin
      go_enter Try.func6, Try.ntmps6
      go_wp2
      go_ret2
      exact ⟨rfl, rfl⟩
    by_cases h2 : l > 255
    · have fin : pmB 1 l = false := by rw [pm_lohi]; unfold loZ hiZ; simp [show ¬ l ≤ 255 by omega]
      rw [fin]
      clear fin
      go_enter Try.func6, Try.ntmps6
      go_wp2
      go_ret2
      exact ⟨rfl, rfl⟩
    have fin : pmB 1 l = true := by rw [pm_lohi]; unfold loZ hiZ; simp [show 0 ≤ l by omega, show l ≤ 255 by omega]
    have mk : Hid (mkZ 1 l = l * 8 + 1) := Lib.hid (by unfold mkZ; omega)
    rw [fin]
    clear fin
    go_enter Try.func6, Try.ntmps6
    go_wp2
    rw [mk.out]
    go_ret2
    exact ⟨rfl, rfl⟩
  by_cases e2 : t = 2
  · subst e2
    by_cases h1 : l < 0
    · have fin : pmB 2 l = false := by rw [pm_lohi]; unfold loZ hiZ; simp [show ¬ 0 ≤ l by omega]
      rw [fin]
      clear fin
      go_enter Try.func6, Try.ntmps6
      go_wp2
      go_ret2
      exact ⟨rfl, rfl⟩
    by_cases h2 : l > 63
    · have fin : pmB 2 l = false := by rw [pm_lohi]; unfold loZ hiZ; simp [show ¬ l ≤ 63 by omega]
      rw [fin]
      clear fin
      go_enter Try.func6, Try.ntmps6
      go_wp2
      go_ret2
      exact ⟨rfl, rfl⟩
    have fin : pmB 2 l = true := by rw [pm_lohi]; unfold loZ hiZ; simp [show 0 ≤ l by omega, show l ≤ 63 by omega]
    have mk : Hid (mkZ 2 l = l * 8 + 2) := Lib.hid (by unfold mkZ; omega)
    rw [fin]
    clear fin
    go_enter Try.func6, Try.ntmps6
    go_wp2
    rw [mk.out]
    go_ret2
    exact ⟨rfl, rfl⟩
  by_cases e3 : t = 3
  · subst e3
    by_cases h1 : l < 0
    · have fin : pmB 3 l = false := by rw [pm_lohi]; unfold loZ hiZ; simp [show ¬ 0 ≤ l by omega]
      rw [fin]
      clear fin
      go_enter Try.func6, Try.ntmps6
      go_wp2
      go_ret2
      exact ⟨rfl, rfl⟩
    by_cases h2 : l > 0
    · have fin : pmB 3 l = false := by rw [pm_lohi]; unfold loZ hiZ; simp [show ¬ l ≤ 0 by omega]
      rw [fin]
      clear fin
      go_enter Try.func6, Try.ntmps6
      go_wp2
      go_ret2
      exact ⟨rfl, rfl⟩
    have fin : pmB 3 l = true := by rw [pm_lohi]; unfold loZ hiZ; simp [show 0 ≤ l by omega, show l ≤ 0 by omega]
    have mk : Hid (mkZ 3 l = l * 8 + 3) := Lib.hid (by unfold mkZ; omega)
    rw [fin]
    clear fin
    go_enter Try.func6, Try.ntmps6
    go_wp2
    rw [mk.out]
    go_ret2
    exact ⟨rfl, rfl⟩
  by_cases e4 : t = 4
  · subst e4
    by_cases h1 : l < 0
    · have fin : pmB 4 l = false := by rw [pm_lohi]; unfold loZ hiZ; simp [show ¬ 0 ≤ l by omega]
      rw [fin]
      clear fin
      go_enter Try.func6, Try.ntmps6
      go_wp2
      go_ret2
      exact ⟨rfl, rfl⟩
    by_cases h2 : l > 1152921504606846975
    · have fin : pmB 4 l = false := by rw [pm_lohi]; unfold loZ hiZ; simp [show ¬ l ≤ 1152921504606846975 by omega]
      rw [fin]
      clear fin
      go_enter Try.func6, Try.ntmps6
      go_wp2
      go_ret2
      exact ⟨rfl, rfl⟩
    have fin : pmB 4 l = true := by rw [pm_lohi]; unfold loZ hiZ; simp [show 0 ≤ l by omega, show l ≤ 1152921504606846975 by omega]
    have mk : Hid (mkZ 4 l = l * 8 + 4) := Lib.hid (by unfold mkZ; omega)
    rw [fin]
    clear fin
    go_enter Try.func6, Try.ntmps6
    go_wp2
    rw [mk.out]
    go_ret2
    exact ⟨rfl, rfl⟩
  by_cases e5 : t = 5
  · subst e5
    by_cases h1 : l < 0
    · have fin : pmB 5 l = false := by rw [pm_lohi]; unfold loZ hiZ; simp [show ¬ 0 ≤ l by omega]
      rw [fin]
      clear fin
      go_enter Try.func6, Try.ntmps6
      go_wp2
      go_ret2
      exact ⟨rfl, rfl⟩
    by_cases h2 : l > 1152921504606846975
    · have fin : pmB 5 l = false := by rw [pm_lohi]; unfold loZ hiZ; simp [show ¬ l ≤ 1152921504606846975 by omega]
      rw [fin]
      clear fin
      go_enter Try.func6, Try.ntmps6
      go_wp2
      go_ret2
      exact ⟨rfl, rfl⟩
    have fin : pmB 5 l = true := by rw [pm_lohi]; unfold loZ hiZ; simp [show 0 ≤ l by omega, show l ≤ 1152921504606846975 by omega]
    have mk : Hid (mkZ 5 l = l * 8 + 5) := Lib.hid (by unfold mkZ; omega)
    rw [fin]
    clear fin
    go_enter Try.func6, Try.ntmps6
    go_wp2
    rw [mk.out]
    go_ret2
    exact ⟨rfl, rfl⟩
  by_cases e6 : t = 6
  · subst e6
    by_cases h1 : l < 0
    · have fin : pmB 6 l = false := by rw [pm_lohi]; unfold loZ hiZ; simp [show ¬ 0 ≤ l by omega]
      rw [fin]
      clear fin
      go_enter Try.func6, Try.ntmps6
      go_wp2
      go_ret2
      exact ⟨rfl, rfl⟩
    by_cases h2 : l > 1152921504606846975
    · have fin : pmB 6 l = false := by rw [pm_lohi]; unfold loZ hiZ; simp [show ¬ l ≤ 1152921504606846975 by omega]
      rw [fin]
      clear fin
      go_enter Try.func6, Try.ntmps6
      go_wp2
      go_ret2
      exact ⟨rfl, rfl⟩
    have fin : pmB 6 l = true := by rw [pm_lohi]; unfold loZ hiZ; simp [show 0 ≤ l by omega, show l ≤ 1152921504606846975 by omega]
    have mk : Hid (mkZ 6 l = l * 8 + 6) := Lib.hid (by unfold mkZ; omega)
    rw [fin]
    clear fin
    go_enter Try.func6, Try.ntmps6
    go_wp2
    rw [mk.out]
    go_ret2
    exact ⟨rfl, rfl⟩
  by_cases e7 : t = 7
  · subst e7
    by_cases h1 : l < 0
    · have fin : pmB 7 l = false := by rw [pm_lohi]; unfold loZ hiZ; simp [show ¬ 0 ≤ l by omega]
      rw [fin]
      clear fin
      go_enter Try.func6, Try.ntmps6
      go_wp2
      go_ret2
      exact ⟨rfl, rfl⟩
    by_cases h2 : l > 1152921504606846975
    · have fin : pmB 7 l = false := by rw [pm_lohi]; unfold loZ hiZ; simp [show ¬ l ≤ 1152921504606846975 by omega]
      rw [fin]
      clear fin
      go_enter Try.func6, Try.ntmps6
      go_wp2
      go_ret2
      exact ⟨rfl, rfl⟩
    have fin : pmB 7 l = true := by rw [pm_lohi]; unfold loZ hiZ; simp [show 0 ≤ l by omega, show l ≤ 1152921504606846975 by omega]
    have mk : Hid (mkZ 7 l = l * 8 + 7) := Lib.hid (by unfold mkZ; omega)
    rw [fin]
    clear fin
    go_enter Try.func6, Try.ntmps6
    go_wp2
    rw [mk.out]
    go_ret2
    exact ⟨rfl, rfl⟩
  have fin : pmB t l = false := by
    rw [pm_lohi]
    by_cases h4 : 0 ≤ t
    · simp [show ¬ t ≤ 7 by omega]
    · simp [h4]
  have n0 : (t == 0) = false := by rw [beq_eq_false_iff_ne]; exact e0
  have n1 : (t == 1) = false := by rw [beq_eq_false_iff_ne]; exact e1
  have n2 : (t == 2) = false := by rw [beq_eq_false_iff_ne]; exact e2
  have n3 : (t == 3) = false := by rw [beq_eq_false_iff_ne]; exact e3
  rw [fin]
  clear fin
  by_cases h4 : t < 0
  · clear e0 e1 e2 e3 e4 e5 e6 e7
    go_enter Try.func6, Try.ntmps6
    go_wp2
    go_ret2
    exact ⟨rfl, rfl⟩
  · have h5 : t > 7 := by omega
    clear e0 e1 e2 e3 e4 e5 e6 e7
    go_enter Try.func6, Try.ntmps6
    go_wp2
    go_ret2
    exact ⟨rfl, rfl⟩

set_option maxRecDepth 100000 in
theorem ptR (w : Int) : ptB w = (hdB (w / 8 % 8) (w / 64) && decide (hdZ (w / 8 % 8) (w / 64) = w)) := by
  unfold ptB
  by_cases e : w % 8 = 6
  · rw [decide_eq_true e, decide_eq_true (by unfold hdZ; omega), Bool.and_true, Bool.true_and]
  · rw [decide_eq_false e, decide_eq_false (by unfold hdZ; omega), Bool.and_false, Bool.false_and]

set_option maxRecDepth 100000 in
set_option maxHeartbeats 1000000 in
theorem refParts_any (w : Int) (h : Wd w) (W : World) : Calls Try.prog 10 #[.int .u64 w] W fun e W' => e = .returned (.tuple #[.int .i64 (if ptB w then w / 8 % 8 else 0), .int .i64 (if ptB w then w / 64 else 0), .bool (ptB w)]) ∧ W = W' := by
  have P := Lib.hid (ptR w)
  unfold Wd at h
  have w1 : Hid (wrap64 ((IntKind.u64.wrap (w.tdiv 8)).tmod 8) = w / 8 % 8) := Lib.hid (by
    rw [Int.tdiv_eq_ediv_of_nonneg h.1, show IntKind.u64.wrap (w / 8) = w / 8 by rw [IntKind.wrap_u64]; omega, Int.tmod_eq_emod_of_nonneg (by omega)]
    simp only [wrap64]; omega)
  have w2 : Hid (wrap64 (IntKind.u64.wrap (w.tdiv 64)) = w / 64) := Lib.hid (by
    rw [Int.tdiv_eq_ediv_of_nonneg h.1, show IntKind.u64.wrap (w / 64) = w / 64 by rw [IntKind.wrap_u64]; omega]
    simp only [wrap64]; omega)
  clear h
  cases g : hdB (w / 8 % 8) (w / 64)
  · have G := Lib.hid g
    rw [P.out, g, Bool.false_and]
    clear g P
    go_enter Try.func10, Try.ntmps10
    go_wp2_with (go_at_call 8; refine (refHead_any _ _ _).mono ?_; rintro e w' ⟨rfl, rfl⟩; rw [w1.out, w2.out, G.out])
    go_ret3
    exact ⟨rfl, rfl⟩
  · have G := Lib.hid g
    rw [P.out, g, Bool.true_and]
    clear g P
    cases f : decide (hdZ (w / 8 % 8) (w / 64) = w)
    · have n : (hdZ (w / 8 % 8) (w / 64) != w) = true := by rw [bne_iff_ne]; exact of_decide_eq_false f
      clear f
      go_enter Try.func10, Try.ntmps10
      go_wp2_with (go_at_call 8; refine (refHead_any _ _ _).mono ?_; rintro e w' ⟨rfl, rfl⟩; rw [w1.out, w2.out, G.out])
      go_ret3
      exact ⟨rfl, rfl⟩
    · have n : (hdZ (w / 8 % 8) (w / 64) != w) = false := by rw [bne_eq_false_iff_eq]; exact of_decide_eq_true f
      clear f
      go_enter Try.func10, Try.ntmps10
      go_wp2_with (go_at_call 8; refine (refHead_any _ _ _).mono ?_; rintro e w' ⟨rfl, rfl⟩; rw [w1.out, w2.out, G.out])
      go_ret3
      exact ⟨rfl, rfl⟩

set_option maxRecDepth 100000 in
set_option maxHeartbeats 1000000 in
theorem refPlain_any (w : Int) (h : Wd w) (W : World) : Calls Try.prog 16 #[.int .u64 w] W fun e W' => e = .returned (.bool (plB w)) ∧ Below W.heap.size W W' := by
  have H := Lib.hid h
  have M := Lib.hid (mk_back h)
  clear h
  cases g : pmB (w % 8) (ldZ w)
  · have f3 : Hid (plB w = false) := Lib.hid (by unfold plB; rw [g, Bool.and_false])
    have G := Lib.hid g
    clear g
    go_enter Try.func16, Try.ntmps16
    go_wp2_with (first | (go_at_call 12; refine (refTag_any _ H.out _).mono ?_; rintro e w' ⟨rfl, rfl⟩) | (go_at_call 14; refine (refLoad_any _ H.out _).mono ?_; rintro e w' ⟨rfl, rfl⟩) | (go_at_call 6; refine (refMake_any _ _ _).mono ?_; rintro e w' ⟨rfl, rfl⟩; rw [G.out]))
    go_ret
    rw [f3.out]
    exact ⟨rfl, by first | exact Below.refl _ _ | exact (Below.refl _ _).drew⟩
  · have f3 : Hid (plB w = decide (w % 8 ≤ 5)) := Lib.hid (by unfold plB; rw [g, Bool.and_true])
    have G := Lib.hid g
    have n : (w == w) = true := beq_self_eq_true w
    clear g
    go_enter Try.func16, Try.ntmps16
    go_wp2_with (first | (go_at_call 12; refine (refTag_any _ H.out _).mono ?_; rintro e w' ⟨rfl, rfl⟩) | (go_at_call 14; refine (refLoad_any _ H.out _).mono ?_; rintro e w' ⟨rfl, rfl⟩) | (go_at_call 6; refine (refMake_any _ _ _).mono ?_; rintro e w' ⟨rfl, rfl⟩; rw [G.out, if_pos rfl, M.out]))
    go_ret
    rw [f3.out]
    exact ⟨rfl, by first | exact Below.refl _ _ | exact (Below.refl _ _).drew⟩

set_option maxRecDepth 100000 in
set_option maxHeartbeats 1000000 in
theorem awake8_any (W : World) : Calls Try.prog 17 #[] W fun e W' => e = .returned (.bool true) ∧ Below W.heap.size W W' := by
  have m1 : Hid (pmB 0 (-1) = true) := Lib.hid (by decide)
  have m2 : Hid (mkZ 0 (-1) = 18446744073709551608) := Lib.hid (by decide)
  have p1 : Hid (ptB 230 = true) := Lib.hid (by decide)
  have l1 : Hid (ldZ 18446744073709551608 = -1) := Lib.hid (by decide)
  have q1 : Hid (plB 18446744073709551608 = true) := Lib.hid (by decide)
  have q2 : Hid (plB 6 = false) := Lib.hid (by decide)
  have hz := Below.refl W.heap.size W
  go_enter Try.func17, Try.ntmps17
  go_wp2_with (first
    | (go_at_call 5; refine (make_any _ _ _).mono ?_; rintro e w' ⟨rfl, rfl⟩; rw [m1.out, if_pos rfl, m2.out])
    | (go_at_call 9; refine (parts_any _ (by unfold Wd; omega) _).mono ?_; rintro e w' ⟨rfl, hb⟩; replace hz := hz.trans (hb.mono hz.size))
    | (go_at_call 13; refine (load_any _ (by unfold Wd; omega) _).mono ?_; rintro e w' ⟨rfl, rfl⟩; rw [l1.out])
    | (go_at_call 15; refine (plain_any _ (by unfold Wd; omega) _).mono ?_; first | (rw [q1.out]; rintro e w1 ⟨rfl, h1⟩) | (rw [q2.out]; rintro e w2 ⟨rfl, h2⟩)))
  go_ret
  exact ⟨rfl, (hz.trans (h1.mono hz.size)).trans (h2.mono (Nat.le_trans hz.size h1.size))⟩
end Go.Proofs.Ythniiamlfhigaaa
