/-
  WORDS: the reference's functions.
  THE REFERENCE's LOOK: small, box.
  PLAIN MATHEMATICS OF TERMS: trees, how heavy they are, how many parts they have. Nothing of the program stands here.
-/
import Derived.Test.YtejmmjedognaaaaGreatMv4
namespace Go.Proofs.YtejmmjedognaaaaGreat
open Go.RowKit

set_option maxRecDepth 100000 in
set_option maxHeartbeats 400000 in
theorem refTag_any (w : Int) (h : Wd w) (W : World) : Calls Tryz.prog 49 #[.int .u64 w] W fun e W' => e = .returned (.int .i64 (w % 8)) ∧ W = W' := by
  unfold Wd at h
  have h1 := h.1
  have E : wrap64 (w % 8) = w % 8 := by simp only [wrap64]; omega
  have E := Lib.hid E
  have E2 := Lib.hid (Int.tmod_eq_emod_of_nonneg (b := 8) h1)
  clear h h1
  go_enter Tryz.func49, Tryz.ntmps49
  go_wp2
  go_ret
  rw [E2.out, E.out]
  exact ⟨rfl, rfl⟩

set_option maxRecDepth 100000 in
set_option maxHeartbeats 400000 in
theorem refLoad_any (w : Int) (h : Wd w) (W : World) : Calls Tryz.prog 50 #[.int .u64 w] W fun e W' => e = .returned (.int .i64 (ldZ w)) ∧ W = W' := by
  have hw := Lib.hid h
  unfold Wd at h
  have h1 := h.1
  have LD : Hid (wrap64 (ldZ w) = ldZ w) := Lib.hid (by unfold ldZ; simp only [wrap64]; split <;> (try split) <;> omega)
  have WD : Hid (IntKind.u64.wrap (w / 8) = w / 8) := Lib.hid (by rw [IntKind.wrap_u64]; omega)
  have E2 := Int.tmod_eq_emod_of_nonneg (b := 8) h1
  have E3 := Lib.hid (Int.tdiv_eq_ediv_of_nonneg (b := 8) h1)
  by_cases e : w % 8 = 0
  · have h0 : (w.tmod 8 == 0) = true := by rw [beq_iff_eq, E2]; exact e
    have fin : Hid ((wrap64 w).tdiv 8 = ldZ w) := Lib.hid (by
      unfold ldZ
      rw [if_pos e]
      split
      · rename_i hx
        rw [show wrap64 w = w by simp only [wrap64]; omega]
        exact Int.tdiv_eq_ediv_of_nonneg h1
      · rename_i hx
        rw [show wrap64 w = w - 18446744073709551616 by simp only [wrap64]; omega]
        obtain ⟨y, hy⟩ : ∃ y, w - 18446744073709551616 = 8 * y := ⟨(w - 18446744073709551616) / 8, by omega⟩
        rw [hy, Int.mul_tdiv_cancel_left _ (by decide), Int.mul_ediv_cancel_left _ (by decide)])
    clear e h E2 h1
    go_enter Tryz.func50, Tryz.ntmps50
    go_wp2
    go_ret
    rw [fin.out, LD.out]
    exact ⟨rfl, rfl⟩
  · have h0 : (w.tmod 8 == 0) = false := by rw [beq_eq_false_iff_ne, E2]; exact e
    have fin : Hid (wrap64 (w / 8) = ldZ w) := Lib.hid (by unfold ldZ; rw [if_neg e]; simp only [wrap64]; omega)
    clear e h E2 h1
    go_enter Tryz.func50, Tryz.ntmps50
    go_wp2
    go_ret
    rw [E3.out, WD.out, fin.out]
    exact ⟨rfl, rfl⟩

set_option maxRecDepth 100000 in
theorem mk_ref {t l : Int} (h : pmB t l = true) : IntKind.u64.wrap (IntKind.u64.wrap (IntKind.u64.wrap l * 8) + IntKind.u64.wrap t) = mkZ t l := by
  have h0 := pm_in h
  simp only [IntKind.wrap_u64]
  unfold mkZ
  omega

set_option maxRecDepth 100000 in
set_option maxHeartbeats 400000 in
theorem refHead_any (k s : Int) (W : World) : Calls Tryz.prog 48 #[.int .i64 k, .int .i64 s] W fun e W' => e = .returned (.tuple #[.int .u64 (if hdB k s then hdZ k s else 0), .bool (hdB k s)]) ∧ W = W' := by
  by_cases h1 : k < 0
  · have fin : hdB k s = false := by unfold hdB; simp [show ¬ (0 ≤ k) by omega]
    rw [fin]
    clear fin
    go_enter Tryz.func48, Tryz.ntmps48
    go_wp2
    go_ret2
    exact ⟨rfl, rfl⟩
  by_cases h2 : k > 5
  · have fin : hdB k s = false := by unfold hdB; simp [show ¬ (k ≤ 5) by omega]
    rw [fin]
    clear fin
    go_enter Tryz.func48, Tryz.ntmps48
    go_wp2
    go_ret2
    exact ⟨rfl, rfl⟩
  by_cases h3 : s < 0
  · have fin : hdB k s = false := by unfold hdB; simp [show ¬ (0 ≤ s) by omega]
    rw [fin]
    clear fin
    go_enter Tryz.func48, Tryz.ntmps48
    go_wp2
    go_ret2
    exact ⟨rfl, rfl⟩
  by_cases h4 : s > 1048576
  · have fin : hdB k s = false := by unfold hdB; simp [show ¬ (s ≤ 1048576) by omega]
    rw [fin]
    clear fin
    go_enter Tryz.func48, Tryz.ntmps48
    go_wp2
    go_ret2
    exact ⟨rfl, rfl⟩
  have fin : hdB k s = true := by unfold hdB; simp [show 0 ≤ k by omega, show k ≤ 5 by omega, show 0 ≤ s by omega, show s ≤ 1048576 by omega]
  rw [fin]
  clear fin
  go_enter Tryz.func48, Tryz.ntmps48
  go_wp2
  go_ret2
  exact ⟨rfl, rfl⟩

/-- Make's bounds. -/
def loZ (t : Int) : Int := if t = 0 then -1152921504606846976 else 0
def hiZ (t : Int) : Int := if t = 3 then 0 else if t = 1 then 255 else if t = 2 then 63 else 1152921504606846975
set_option maxRecDepth 100000 in
theorem pm_lohi (t l : Int) : pmB t l = (decide (0 ≤ t) && decide (t ≤ 7) && decide (loZ t ≤ l) && decide (l ≤ hiZ t)) := by
  rw [Bool.eq_iff_iff]
  unfold pmB loZ hiZ
  by_cases e0 : t = 0
  · subst e0; simp
  by_cases e1 : t = 1
  · subst e1; simp
  by_cases e2 : t = 2
  · subst e2; simp
  by_cases e3 : t = 3
  · subst e3; simp; omega
  simp [e0, e1, e2, e3]
  omega

set_option maxRecDepth 100000 in
theorem refMake_any (t l : Int) (W : World) : Calls Tryz.prog 71 #[.int .i64 t, .int .i64 l] W fun e W' => e = .returned (.tuple #[.int .u64 (if pmB t l then mkZ t l else 0), .bool (pmB t l)]) ∧ W = W' := by
  by_cases e0 : t = 0
  · subst e0
    by_cases h1 : l < -1152921504606846976
    · have fin : pmB 0 l = false := by rw [pm_lohi]; unfold loZ hiZ; simp [show ¬ -1152921504606846976 ≤ l by omega]
      rw [fin]
      clear fin
      go_enter Tryz.func71, Tryz.ntmps71
      go_wp2
      go_ret2
      exact ⟨rfl, rfl⟩
    by_cases h2 : l > 1152921504606846975
    · have fin : pmB 0 l = false := by rw [pm_lohi]; unfold loZ hiZ; simp [show ¬ l ≤ 1152921504606846975 by omega]
      rw [fin]
      clear fin
      go_enter Tryz.func71, Tryz.ntmps71
      go_wp2
      go_ret2
      exact ⟨rfl, rfl⟩
    have fin : pmB 0 l = true := by rw [pm_lohi]; unfold loZ hiZ; simp [show -1152921504606846976 ≤ l by omega, show l ≤ 1152921504606846975 by omega]
    have mk : Hid (mkZ 0 l = IntKind.u64.wrap (IntKind.u64.wrap (IntKind.u64.wrap l * 8))) := Lib.hid (by simp only [IntKind.wrap_u64]; unfold mkZ; omega)
    rw [fin]
    clear fin
    go_enter Tryz.func71, Tryz.ntmps71
    go_wp2
    rw [mk.out]
    go_ret2
    exact ⟨rfl, rfl⟩
  by_cases e1 : t = 1
  · subst e1
    by_cases h1 : l < 0
    · have fin : pmB 1 l = false := by rw [pm_lohi]; unfold loZ hiZ; simp [show ¬ 0 ≤ l by omega]
      rw [fin]
      clear fin
      go_enter Tryz.func71, Tryz.ntmps71
      go_wp2
      go_ret2
      exact ⟨rfl, rfl⟩
    by_cases h2 : l > 255
    · have fin : pmB 1 l = false := by rw [pm_lohi]; unfold loZ hiZ; simp [show ¬ l ≤ 255 by omega]
      rw [fin]
      clear fin
      go_enter Tryz.func71, Tryz.ntmps71
      go_wp2
      go_ret2
      exact ⟨rfl, rfl⟩
    have fin : pmB 1 l = true := by rw [pm_lohi]; unfold loZ hiZ; simp [show 0 ≤ l by omega, show l ≤ 255 by omega]
    have mk : Hid (mkZ 1 l = l * 8 + 1) := Lib.hid (by unfold mkZ; omega)
    rw [fin]
    clear fin
    go_enter Tryz.func71, Tryz.ntmps71
    go_wp2
    rw [mk.out]
    go_ret2
    exact ⟨rfl, rfl⟩
  by_cases e2 : t = 2
  · subst e2
    by_cases h1 : l < 0
    · have fin : pmB 2 l = false := by rw [pm_lohi]; unfold loZ hiZ; simp [show ¬ 0 ≤ l by omega]
      rw [fin]
      clear fin
      go_enter Tryz.func71, Tryz.ntmps71
      go_wp2
      go_ret2
      exact ⟨rfl, rfl⟩
    by_cases h2 : l > 63
    · have fin : pmB 2 l = false := by rw [pm_lohi]; unfold loZ hiZ; simp [show ¬ l ≤ 63 by omega]
      rw [fin]
      clear fin
      go_enter Tryz.func71, Tryz.ntmps71
      go_wp2
      go_ret2
      exact ⟨rfl, rfl⟩
    have fin : pmB 2 l = true := by rw [pm_lohi]; unfold loZ hiZ; simp [show 0 ≤ l by omega, show l ≤ 63 by omega]
    have mk : Hid (mkZ 2 l = l * 8 + 2) := Lib.hid (by unfold mkZ; omega)
    rw [fin]
    clear fin
    go_enter Tryz.func71, Tryz.ntmps71
    go_wp2
    rw [mk.out]
    go_ret2
    exact ⟨rfl, rfl⟩
  by_cases e3 : t = 3
  · subst e3
    by_cases h1 : l < 0
    · have fin : pmB 3 l = false := by rw [pm_lohi]; unfold loZ hiZ; simp [show ¬ 0 ≤ l by omega]
      rw [fin]
      clear fin
      go_enter Tryz.func71, Tryz.ntmps71
      go_wp2
      go_ret2
      exact ⟨rfl, rfl⟩
    by_cases h2 : l > 0
    · have fin : pmB 3 l = false := by rw [pm_lohi]; unfold loZ hiZ; simp [show ¬ l ≤ 0 by omega]
      rw [fin]
      clear fin
      go_enter Tryz.func71, Tryz.ntmps71
      go_wp2
      go_ret2
      exact ⟨rfl, rfl⟩
    have fin : pmB 3 l = true := by rw [pm_lohi]; unfold loZ hiZ; simp [show 0 ≤ l by omega, show l ≤ 0 by omega]
    have mk : Hid (mkZ 3 l = l * 8 + 3) := Lib.hid (by unfold mkZ; omega)
    rw [fin]
    clear fin
    go_enter Tryz.func71, Tryz.ntmps71
    go_wp2
    rw [mk.out]
    go_ret2
    exact ⟨rfl, rfl⟩
  by_cases e4 : t = 4
  · subst e4
    by_cases h1 : l < 0
    · have fin : pmB 4 l = false := by rw [pm_lohi]; unfold loZ hiZ; simp [show ¬ 0 ≤ l by omega]
      rw [fin]
      clear fin
      go_enter Tryz.func71, Tryz.ntmps71
      go_wp2
      go_ret2
      exact ⟨rfl, rfl⟩
    by_cases h2 : l > 1152921504606846975
    · have fin : pmB 4 l = false := by rw [pm_lohi]; unfold loZ hiZ; simp [show ¬ l ≤ 1152921504606846975 by omega]
      rw [fin]
      clear fin
      go_enter Tryz.func71, Tryz.ntmps71
      go_wp2
      go_ret2
      exact ⟨rfl, rfl⟩
    have fin : pmB 4 l = true := by rw [pm_lohi]; unfold loZ hiZ; simp [show 0 ≤ l by omega, show l ≤ 1152921504606846975 by omega]
    have mk : Hid (mkZ 4 l = l * 8 + 4) := Lib.hid (by unfold mkZ; omega)
    rw [fin]
    clear fin
    go_enter Tryz.func71, Tryz.ntmps71
    go_wp2
    rw [mk.out]
    go_ret2
    exact ⟨rfl, rfl⟩
  by_cases e5 : t = 5
  · subst e5
    by_cases h1 : l < 0
    · have fin : pmB 5 l = false := by rw [pm_lohi]; unfold loZ hiZ; simp [show ¬ 0 ≤ l by omega]
      rw [fin]
      clear fin
      go_enter Tryz.func71, Tryz.ntmps71
      go_wp2
      go_ret2
      exact ⟨rfl, rfl⟩
    by_cases h2 : l > 1152921504606846975
    · have fin : pmB 5 l = false := by rw [pm_lohi]; unfold loZ hiZ; simp [show ¬ l ≤ 1152921504606846975 by omega]
      rw [fin]
      clear fin
      go_enter Tryz.func71, Tryz.ntmps71
      go_wp2
      go_ret2
      exact ⟨rfl, rfl⟩
    have fin : pmB 5 l = true := by rw [pm_lohi]; unfold loZ hiZ; simp [show 0 ≤ l by omega, show l ≤ 1152921504606846975 by omega]
    have mk : Hid (mkZ 5 l = l * 8 + 5) := Lib.hid (by unfold mkZ; omega)
    rw [fin]
    clear fin
    go_enter Tryz.func71, Tryz.ntmps71
    go_wp2
    rw [mk.out]
    go_ret2
    exact ⟨rfl, rfl⟩
  by_cases e6 : t = 6
  · subst e6
    by_cases h1 : l < 0
    · have fin : pmB 6 l = false := by rw [pm_lohi]; unfold loZ hiZ; simp [show ¬ 0 ≤ l by omega]
      rw [fin]
      clear fin
      go_enter Tryz.func71, Tryz.ntmps71
      go_wp2
      go_ret2
      exact ⟨rfl, rfl⟩
    by_cases h2 : l > 1152921504606846975
    · have fin : pmB 6 l = false := by rw [pm_lohi]; unfold loZ hiZ; simp [show ¬ l ≤ 1152921504606846975 by omega]
      rw [fin]
      clear fin
      go_enter Tryz.func71, Tryz.ntmps71
      go_wp2
      go_ret2
      exact ⟨rfl, rfl⟩
    have fin : pmB 6 l = true := by rw [pm_lohi]; unfold loZ hiZ; simp [show 0 ≤ l by omega, show l ≤ 1152921504606846975 by omega]
    have mk : Hid (mkZ 6 l = l * 8 + 6) := Lib.hid (by unfold mkZ; omega)
    rw [fin]
    clear fin
    go_enter Tryz.func71, Tryz.ntmps71
    go_wp2
    rw [mk.out]
    go_ret2
    exact ⟨rfl, rfl⟩
  by_cases e7 : t = 7
  · subst e7
    by_cases h1 : l < 0
    · have fin : pmB 7 l = false := by rw [pm_lohi]; unfold loZ hiZ; simp [show ¬ 0 ≤ l by omega]
      rw [fin]
      clear fin
      go_enter Tryz.func71, Tryz.ntmps71
      go_wp2
      go_ret2
      exact ⟨rfl, rfl⟩
    by_cases h2 : l > 1152921504606846975
    · have fin : pmB 7 l = false := by rw [pm_lohi]; unfold loZ hiZ; simp [show ¬ l ≤ 1152921504606846975 by omega]
      rw [fin]
      clear fin
      go_enter Tryz.func71, Tryz.ntmps71
      go_wp2
      go_ret2
      exact ⟨rfl, rfl⟩
    have fin : pmB 7 l = true := by rw [pm_lohi]; unfold loZ hiZ; simp [show 0 ≤ l by omega, show l ≤ 1152921504606846975 by omega]
    have mk : Hid (mkZ 7 l = l * 8 + 7) := Lib.hid (by unfold mkZ; omega)
    rw [fin]
    clear fin
    go_enter Tryz.func71, Tryz.ntmps71
    go_wp2
    rw [mk.out]
    go_ret2
    exact ⟨rfl, rfl⟩
  have fin : pmB t l = false := by
    rw [pm_lohi]
    by_cases h4 : 0 ≤ t
    · simp [show ¬ t ≤ 7 by omega]
    · simp [h4]
  have n0 : (t == 0) = false := by rw [beq_eq_false_iff_ne]; exact e0
  have n1 : (t == 1) = false := by rw [beq_eq_false_iff_ne]; exact e1
  have n2 : (t == 2) = false := by rw [beq_eq_false_iff_ne]; exact e2
  have n3 : (t == 3) = false := by rw [beq_eq_false_iff_ne]; exact e3
  rw [fin]
  clear fin
  by_cases h4 : t < 0
  · clear e0 e1 e2 e3 e4 e5 e6 e7
    go_enter Tryz.func71, Tryz.ntmps71
    go_wp2
    go_ret2
    exact ⟨rfl, rfl⟩
  · have h5 : t > 7 := by omega
    clear e0 e1 e2 e3 e4 e5 e6 e7
    go_enter Tryz.func71, Tryz.ntmps71
    go_wp2
    go_ret2
    exact ⟨rfl, rfl⟩

set_option maxRecDepth 100000 in
theorem ptR (w : Int) : ptB w = (hdB (w / 8 % 8) (w / 64) && decide (hdZ (w / 8 % 8) (w / 64) = w)) := by
  unfold ptB
  by_cases e : w % 8 = 6
  · rw [decide_eq_true e, decide_eq_true (by unfold hdZ; omega), Bool.and_true, Bool.true_and]
  · rw [decide_eq_false e, decide_eq_false (by unfold hdZ; omega), Bool.and_false, Bool.false_and]

set_option maxRecDepth 100000 in
set_option maxHeartbeats 1000000 in
theorem refParts_any (w : Int) (h : Wd w) (W : World) : Calls Tryz.prog 23 #[.int .u64 w] W fun e W' => e = .returned (.tuple #[.int .i64 (if ptB w then w / 8 % 8 else 0), .int .i64 (if ptB w then w / 64 else 0), .bool (ptB w)]) ∧ W = W' := by
  have P := Lib.hid (ptR w)
  unfold Wd at h
  have w1 : Hid (wrap64 ((IntKind.u64.wrap (w.tdiv 8)).tmod 8) = w / 8 % 8) := Lib.hid (by
    rw [Int.tdiv_eq_ediv_of_nonneg h.1, show IntKind.u64.wrap (w / 8) = w / 8 by rw [IntKind.wrap_u64]; omega, Int.tmod_eq_emod_of_nonneg (by omega)]
    simp only [wrap64]; omega)
  have w2 : Hid (wrap64 (IntKind.u64.wrap (w.tdiv 64)) = w / 64) := Lib.hid (by
    rw [Int.tdiv_eq_ediv_of_nonneg h.1, show IntKind.u64.wrap (w / 64) = w / 64 by rw [IntKind.wrap_u64]; omega]
    simp only [wrap64]; omega)
  clear h
  cases g : hdB (w / 8 % 8) (w / 64)
  · have G := Lib.hid g
    rw [P.out, g, Bool.false_and]
    clear g P
    go_enter Tryz.func23, Tryz.ntmps23
    go_wp2_with (go_at_call 48; refine (refHead_any _ _ _).mono ?_; rintro e w' ⟨rfl, rfl⟩; rw [w1.out, w2.out, G.out])
    go_ret3
    exact ⟨rfl, rfl⟩
  · have G := Lib.hid g
    rw [P.out, g, Bool.true_and]
    clear g P
    cases f : decide (hdZ (w / 8 % 8) (w / 64) = w)
    · have n : (hdZ (w / 8 % 8) (w / 64) != w) = true := by rw [bne_iff_ne]; exact of_decide_eq_false f
      clear f
      go_enter Tryz.func23, Tryz.ntmps23
      go_wp2_with (go_at_call 48; refine (refHead_any _ _ _).mono ?_; rintro e w' ⟨rfl, rfl⟩; rw [w1.out, w2.out, G.out])
      go_ret3
      exact ⟨rfl, rfl⟩
    · have n : (hdZ (w / 8 % 8) (w / 64) != w) = false := by rw [bne_eq_false_iff_eq]; exact of_decide_eq_true f
      clear f
      go_enter Tryz.func23, Tryz.ntmps23
      go_wp2_with (go_at_call 48; refine (refHead_any _ _ _).mono ?_; rintro e w' ⟨rfl, rfl⟩; rw [w1.out, w2.out, G.out])
      go_ret3
      exact ⟨rfl, rfl⟩

set_option maxRecDepth 100000 in
set_option maxHeartbeats 1000000 in
theorem refPlain_any (w : Int) (h : Wd w) (W : World) : Calls Tryz.prog 89 #[.int .u64 w] W fun e W' => e = .returned (.bool (plB w)) ∧ Below W.heap.size W W' := by
  have H := Lib.hid h
  have M := Lib.hid (mk_back h)
  clear h
  cases g : pmB (w % 8) (ldZ w)
  · have f3 : Hid (plB w = false) := Lib.hid (by unfold plB; rw [g, Bool.and_false])
    have G := Lib.hid g
    clear g
    go_enter Tryz.func89, Tryz.ntmps89
    go_wp2_with (first | (go_at_call 49; refine (refTag_any _ H.out _).mono ?_; rintro e w' ⟨rfl, rfl⟩) | (go_at_call 50; refine (refLoad_any _ H.out _).mono ?_; rintro e w' ⟨rfl, rfl⟩) | (go_at_call 71; refine (refMake_any _ _ _).mono ?_; rintro e w' ⟨rfl, rfl⟩; rw [G.out]))
    go_ret
    rw [f3.out]
    exact ⟨rfl, by first | exact Below.refl _ _ | exact (Below.refl _ _).drew⟩
  · have f3 : Hid (plB w = decide (w % 8 ≤ 5)) := Lib.hid (by unfold plB; rw [g, Bool.and_true])
    have G := Lib.hid g
    have n : (w == w) = true := beq_self_eq_true w
    clear g
    go_enter Tryz.func89, Tryz.ntmps89
    go_wp2_with (first | (go_at_call 49; refine (refTag_any _ H.out _).mono ?_; rintro e w' ⟨rfl, rfl⟩) | (go_at_call 50; refine (refLoad_any _ H.out _).mono ?_; rintro e w' ⟨rfl, rfl⟩) | (go_at_call 71; refine (refMake_any _ _ _).mono ?_; rintro e w' ⟨rfl, rfl⟩; rw [G.out, if_pos rfl, M.out]))
    go_ret
    rw [f3.out]
    exact ⟨rfl, by first | exact Below.refl _ _ | exact (Below.refl _ _).drew⟩

end Go.Proofs.YtejmmjedognaaaaGreat

namespace Go.Proofs.YtejmmjedognaaaaGreat
open Go.RowKit
open St

def smlZ (w most : Int) : Int := if most < w then -1 else w
set_option maxRecDepth 100000 in
set_option maxRecDepth 100000 in
theorem small12_any (x most : Int) (hx : Wd x) (hm : 0 ≤ most ∧ most ≤ 1152921504606846976) (w : World) : Calls Tryz.prog 100 #[.int .u64 x, .int .i64 most] w fun e w' => e = .returned (.int .i64 (smlZ x most)) ∧ w = w' := by
  unfold Wd at hx
  have e1 : IntKind.u64.wrap most = most := by rw [IntKind.wrap_u64]; omega
  by_cases h : most < x
  · have hd : decide (most < x) = true := decide_eq_true h
    have e2 : smlZ x most = -1 := by unfold smlZ; rw [if_pos h]
    rw [e2]
    clear e2 hx
    go_enter Tryz.func100, Tryz.ntmps100
    go_wp2
    go_ret
    exact ⟨rfl, rfl⟩
  · have hd : decide (most < x) = false := decide_eq_false h
    have e2 : smlZ x most = x := by unfold smlZ; rw [if_neg h]
    have hb : -1152921504606846976 ≤ x ∧ x ≤ 1152921504606846976 := by omega
    rw [e2]
    clear e2 hx h
    go_enter Tryz.func100, Tryz.ntmps100
    go_wp2
    go_ret
    exact ⟨rfl, rfl⟩

/-- The object that a word with TagBox leads to: its kind, its words. -/
def boxZ (x : Int) : List Int → Option (Int × List Int)
  | [] => none
  | h :: t => if x % 8 = 4 ∧ ptB h = true ∧ h / 64 ≤ (t.length : Int) then some (h / 8 % 8, t.take (h / 64).toNat) else none
def boxO (gs : List Frg) (x : Int) : Option (Int × List Int) := boxZ x (atL gs (ldZ x))
def BoxP (w : World) (gs : List Frg) (x : Int) (e : Ending) (w' : World) : Prop :=
  ((boxO gs x = none ∧ e = .returned (.tuple #[.int .i64 0, .slice none 0 0, .bool false])) ∨
    ∃ k ws A n c, boxO gs x = some (k, ws) ∧ e = .returned (.tuple #[.int .i64 k, .slice A n c, .bool true]) ∧ Zs .u64 w' A n c ws ∧ 0 ≤ k ∧ k ≤ 5) ∧ Below w.heap.size w w'

set_option maxRecDepth 100000 in
theorem Lx.all {w' : World} {D : Nat} {r : DR} {SA : Option Addr} {sm sc : Nat} {dp : Bool} (h : Lx w' D r SA sm sc dp) : w'.cell? ⟨D, 0, none⟩ = some (.int .i64 r.y.at_) ∧ w'.cell? ⟨D, 1, none⟩ = some (.slice r.y.A r.y.n r.y.c) ∧ w'.cell? ⟨D, 2, none⟩ = some (.int .i64 r.o.at_) ∧ w'.cell? ⟨D, 3, none⟩ = some (.slice r.o.A r.o.n r.o.c) ∧ w'.cell? ⟨D, 4, none⟩ = some (.int .i64 r.size) ∧ w'.cell? ⟨D, 5, none⟩ = some (.int .i64 r.mark) ∧ w'.cell? ⟨D, 6, none⟩ = some (.slice r.F r.fm r.fc) ∧ w'.cell? ⟨D, 7, none⟩ = some (.slice r.R r.rm r.rc) ∧ w'.cell? ⟨D, 8, none⟩ = some (.slice r.H r.hm r.hc) ∧ w'.cell? ⟨D, 9, none⟩ = some (.slice SA sm sc) ∧ w'.cell? ⟨D, 10, none⟩ = some (.bool dp) :=
  ⟨h.c0, h.c1, h.c2, h.c3, h.c4, h.c5, h.c6, h.c7, h.c8, h.c9, h.c10⟩
set_option maxRecDepth 100000 in
theorem ldZ_in {x : Int} (h : Wd x) : -9223372036854775808 ≤ ldZ x ∧ ldZ x ≤ 9223372036854775807 := by
  unfold Wd at h
  unfold ldZ
  split
  · split <;> omega
  · omega

set_option maxRecDepth 100000 in
set_option maxRecDepth 100000 in
set_option maxHeartbeats 4000000 in
theorem box12_any {w : World} {r : DR} {d : Dmp} (h : DV w r d) (hm : r.fm ≤ 1000) (SA : Option Addr) (sm sc : Nat) (dp : Bool) (x : Int) (hx : Wd x) :
    Calls Tryz.prog 72 #[.agg #[.int .i64 r.y.at_, .slice r.y.A r.y.n r.y.c, .int .i64 r.o.at_, .slice r.o.A r.o.n r.o.c, .int .i64 r.size, .int .i64 r.mark, .slice r.F r.fm r.fc, .slice r.R r.rm r.rc, .slice r.H r.hm r.hc, .slice SA sm sc, .bool dp], .int .u64 x] w (BoxP w (d.y :: d.o :: d.fs) x) := by
  obtain ⟨wa, hwa⟩ : ∃ wa, wa = w.alloc (.cells #[.int .i64 r.y.at_, .slice r.y.A r.y.n r.y.c, .int .i64 r.o.at_, .slice r.o.A r.o.n r.o.c, .int .i64 r.size, .int .i64 r.mark, .slice r.F r.fm r.fc, .slice r.R r.rm r.rc, .slice r.H r.hm r.hc, .slice SA sm sc, .bool dp] 72) := ⟨_, rfl⟩
  have hba : Below w.heap.size w wa := by rw [hwa]; exact (Below.refl _ w).alloc (Nat.le_refl _) _
  have va := h.below hba
  have HAt := Lib.hid (at12_any (va.drewN 1) hm SA sm sc dp (ldZ x) (ldZ_in hx))
  have HB := Lib.hid hba
  have xa : Lx wa w.heap.size r SA sm sc dp := ⟨by rw [hwa]; exact heap_alloc_new w _⟩
  have HX := Lib.hid xa
  have HT := Lib.hid (fun w => refTag_any x hx w)
  have HLd := Lib.hid (fun w => refLoad_any x hx w)
  clear h hba xa va hx
  go_enter Tryz.func72, Tryz.ntmps72
  go_upto_region 1 with fail
  rw [← hwa]
  clear hwa
  generalize hD : w.heap.size = D at *
  replace hD := Lib.hid hD
  generalize hgs : d.y :: d.o :: d.fs = gs at *
  clear hgs
  have HX1 := Lib.hid (HX.out.drewN 1)
  go_region_held3 (fun w' => w'.cell? ⟨D, 0, none⟩ = some (.int .i64 r.y.at_) ∧ w'.cell? ⟨D, 1, none⟩ = some (.slice r.y.A r.y.n r.y.c) ∧ w'.cell? ⟨D, 2, none⟩ = some (.int .i64 r.o.at_) ∧ w'.cell? ⟨D, 3, none⟩ = some (.slice r.o.A r.o.n r.o.c) ∧ w'.cell? ⟨D, 4, none⟩ = some (.int .i64 r.size) ∧ w'.cell? ⟨D, 5, none⟩ = some (.int .i64 r.mark) ∧ w'.cell? ⟨D, 6, none⟩ = some (.slice r.F r.fm r.fc) ∧ w'.cell? ⟨D, 7, none⟩ = some (.slice r.R r.rm r.rc) ∧ w'.cell? ⟨D, 8, none⟩ = some (.slice r.H r.hm r.hc) ∧ w'.cell? ⟨D, 9, none⟩ = some (.slice SA sm sc) ∧ w'.cell? ⟨D, 10, none⟩ = some (.bool dp))
    (first | exact HX.out.all | exact HX1.out.all | exact HX2.out.all)
    (first
      | (go_at_call 50; refine (HLd.out _).mono ?_; rintro e w2 ⟨rfl, rfl⟩)
      | (go_at_call 74; refine HAt.out.mono ?_; rintro e w3 ⟨A, n, c, rfl, hz, hb⟩; have HX2 := Lib.hid (HX1.out.below hb HX1.out.lt)))
  have HB3 : Hid (Below D w w3) := Lib.hid (HB.out.trans (⟨hb.os, hb.tape, hb.output, hb.size, fun k hk => hb.block k (by have := HB.out.size; rw [hD.out] at this; exact Nat.lt_of_lt_of_le hk this)⟩ : Below D wa w3))
  have hnc := hz.nc
  have hcm : c ≤ 9223372036854775807 := hz.cm
  have hl := hz.len
  have hwf := Lib.hid hz.wf
  have HZ := Lib.hid hz
  clear hz hb HX HX1 HX2 HAt HLd HB
  rename_i hfacts
  clear hfacts
  obtain ⟨zs, hzs⟩ : ∃ zs, zs = atL gs (ldZ x) := ⟨_, rfl⟩
  rw [← hzs] at HZ hl hwf
  have HO : Hid (boxO gs x = boxZ x zs) := Lib.hid (by unfold boxO; rw [← hzs])
  clear hzs
  by_cases ht : x % 8 = 4
  · have hd1 : (x % 8 != 4) = false := by rw [ht]; rfl
    cases zs with
    | nil =>
      have hn : n = 0 := by rw [← hl]; rfl
      subst hn
      have HN := Lib.hid (show boxO gs x = none by rw [HO.out]; rfl)
      clear HO ht
      go_wp2_with (first
    | (go_at_call 49; (with_reducible refine (HT.out _).mono ?_); rintro e w4 ⟨rfl, rfl⟩))
      go_ret3
      exact ⟨.inl ⟨HN.out, rfl⟩, by rw [hD.out]; exact HB3.out⟩
    | cons h t =>
      have hn : n = t.length + 1 := by rw [← hl]; rfl
      obtain ⟨b, o, hA, _⟩ := HZ.out.some (by omega)
      subst hA
      have y0 : w3.cell? ⟨b, o, none⟩ = some (.int .u64 h) := by simpa using HZ.out.at_ (j := 0) (by omega)
      have hh := wf_u (hwf.out h (by simp))
      have hd2 : ((n : Int) == 0) = false := beq_eq_false_iff_ne.2 (by omega)
      have hn0 : (0 : Int) < (n : Int) := by omega
      have hP := refParts_any h hh w3
      by_cases hp : ptB h = true
      · rw [hp] at hP
        simp only [if_true] at hP
        have HP := Lib.hid hP
        have hsz : 0 ≤ h / 64 ∧ h / 64 ≤ 1048576 := by
          have := hp
          simp only [ptB, hdB, Bool.and_eq_true, decide_eq_true_eq] at this
          omega
        have hkk : 0 ≤ h / 8 % 8 ∧ h / 8 % 8 ≤ 5 := by
          have := hp
          simp only [ptB, hdB, Bool.and_eq_true, decide_eq_true_eq] at this
          omega
        obtain ⟨m, hm2⟩ : ∃ m : Nat, h / 64 = (m : Int) := ⟨(h / 64).toNat, by omega⟩
        by_cases hs : m ≤ t.length
        · have HS := Lib.hid (show boxO gs x = some (h / 8 % 8, t.take m) by
            rw [HO.out]
            show (if x % 8 = 4 ∧ ptB h = true ∧ h / 64 ≤ (t.length : Int) then some (h / 8 % 8, t.take (h / 64).toNat) else none) = _
            rw [if_pos ⟨ht, hp, by omega⟩, hm2]
            rfl)
          rw [hm2] at HP hsz
          generalize h / 8 % 8 = kd at *
          have hd3 : decide ((n : Int) - 1 < (m : Int)) = false := decide_eq_false (by omega)
          have hm3 : m + 1 ≤ n := by omega
          have hm4 : (m : Int) ≤ 1048576 := hsz.2
          have hA1 : (1 : Int) ≤ 1 + (m : Int) := by omega
          have hA2 : 1 + (m : Int) ≤ (c : Int) := by omega
          have hA3 : 0 ≤ 1 + (m : Int) := by omega
          have hm5 : 1 + m - 1 = m := by omega
          by_cases hc1 : c = 1
          · have hpart := HZ.out.part (lo := 1) (m := m) (o' := o) (by omega) (.inl (by omega))
            simp only [List.drop_succ_cons, List.drop_zero] at hpart
            have HPt := Lib.hid hpart
            subst hc1
            clear HZ hpart HO hP hp ht hwf hl
            go_wp2_with (first
              | (go_at_call 49; (with_reducible refine (HT.out _).mono ?_); rintro e w4 ⟨rfl, rfl⟩)
              | (go_at_call 23; (with_reducible refine HP.out.mono ?_); rintro e w5 ⟨rfl, rfl⟩))
            go_region
            all_goals
              go_wp2_with fail
              go_ret3
              exact ⟨.inr ⟨_, _, _, _, _, HS.out, rfl, by rw [hm5]; exact HPt.out.drewN 1, hkk⟩, by rw [hD.out]; exact ⟨HB3.out.os, HB3.out.tape, HB3.out.output, HB3.out.size, HB3.out.block⟩⟩
          · have hpart := HZ.out.part (lo := 1) (m := m) (o' := o + 1) (by omega) (.inr rfl)
            simp only [List.drop_succ_cons, List.drop_zero] at hpart
            have HPt := Lib.hid hpart
            clear HZ hpart HO hP hp ht hwf hl
            go_wp2_with (first
              | (go_at_call 49; (with_reducible refine (HT.out _).mono ?_); rintro e w4 ⟨rfl, rfl⟩)
              | (go_at_call 23; (with_reducible refine HP.out.mono ?_); rintro e w5 ⟨rfl, rfl⟩))
            go_region
            all_goals
              go_wp2_with fail
              go_ret3
              exact ⟨.inr ⟨_, _, _, _, _, HS.out, rfl, by rw [hm5]; exact HPt.out.drewN 1, hkk⟩, by rw [hD.out]; exact ⟨HB3.out.os, HB3.out.tape, HB3.out.output, HB3.out.size, HB3.out.block⟩⟩
        · have HN := Lib.hid (show boxO gs x = none by
            rw [HO.out]
            exact if_neg (fun e => by omega))
          rw [hm2] at HP hsz
          generalize h / 8 % 8 = kd at *
          have hd3 : decide ((n : Int) - 1 < (m : Int)) = true := decide_eq_true (by omega)
          have hm4 : (m : Int) ≤ 1048576 := hsz.2
          clear HZ HO hP hp ht hwf hl
          go_wp2_with (first
            | (go_at_call 49; (with_reducible refine (HT.out _).mono ?_); rintro e w4 ⟨rfl, rfl⟩)
            | (go_at_call 23; (with_reducible refine HP.out.mono ?_); rintro e w5 ⟨rfl, rfl⟩))
          go_ret3
          exact ⟨.inl ⟨HN.out, rfl⟩, by rw [hD.out]; exact HB3.out⟩
      · have hp2 : ptB h = false := by simpa using hp
        rw [hp2] at hP
        have HP := Lib.hid hP
        have HN := Lib.hid (show boxO gs x = none by
          rw [HO.out]
          exact if_neg (fun e => hp e.2.1))
        clear HZ HO hP hp ht hwf hl hp2
        go_wp2_with (first
          | (go_at_call 49; (with_reducible refine (HT.out _).mono ?_); rintro e w4 ⟨rfl, rfl⟩)
          | (go_at_call 23; (with_reducible refine HP.out.mono ?_); rintro e w5 ⟨rfl, rfl⟩))
        go_ret3
        exact ⟨.inl ⟨HN.out, rfl⟩, by rw [hD.out]; exact HB3.out⟩
  · have hd1 : (x % 8 != 4) = true := bne_iff_ne.2 ht
    have HN := Lib.hid (show boxO gs x = none by
      rw [HO.out]
      cases zs with
      | nil => rfl
      | cons h t => exact if_neg (fun e => ht e.1))
    clear HO
    go_wp2_with (first
    | (go_at_call 49; (with_reducible refine (HT.out _).mono ?_); rintro e w4 ⟨rfl, rfl⟩))
    go_ret3
    exact ⟨.inl ⟨HN.out, rfl⟩, by rw [hD.out]; exact HB3.out⟩
end Go.Proofs.YtejmmjedognaaaaGreat

namespace Go.Proofs.YtejmmjedognaaaaGreat

/-- A term: its kind, number, sign, limbs, bits, bytes, arguments. -/
inductive Tm where
  | mk (k n : Int) (g : Bool) (l : List Nat) (u : Int) (s : ByteArray) (ks : List Tm)
namespace Tm
instance : Inhabited Tm := ⟨.mk 0 0 false [] 0 ⟨#[]⟩ []⟩

def kind : Tm → Int | .mk k _ _ _ _ _ _ => k
def num : Tm → Int | .mk _ n _ _ _ _ _ => n
def neg : Tm → Bool | .mk _ _ g _ _ _ _ => g
def mag : Tm → List Nat | .mk _ _ _ l _ _ _ => l
def bits : Tm → Int | .mk _ _ _ _ u _ _ => u
def bytes : Tm → ByteArray | .mk _ _ _ _ _ s _ => s
def args : Tm → List Tm | .mk _ _ _ _ _ _ ks => ks

set_option maxRecDepth 100000 in
/-- Induction over terms. -/
theorem ind {P : Tm → Prop} (h : ∀ k n g l u s ks, (∀ t ∈ ks, P t) → P (.mk k n g l u s ks)) : ∀ t, P t
  | .mk k n g l u s ks => h k n g l u s ks (go ks)
where go : ∀ ks : List Tm, ∀ t ∈ ks, P t
  | [], _, hm => nomatch hm
  | a :: r, t, hm => by
    rcases List.mem_cons.1 hm with e | hm
    · rw [e]; exact ind h a
    · exact go r t hm

mutual
/-- How heavy a term is. -/
def wt : Tm → Nat
  | .mk k _ _ l _ s ks => if k = 2 then 1 + l.length else if k = 9 then 1 + s.size / 8 else if k = 6 ∨ k = 8 then 1 + wts ks else 1
def wts : List Tm → Nat
  | [] => 0
  | t :: r => wt t + wts r
end
set_option maxRecDepth 100000 in
theorem wts_append (a b : List Tm) : wts (a ++ b) = wts a + wts b := by
  induction a with
  | nil => simp [wts]
  | cons t r ih => simp [wts, ih]; omega
set_option maxRecDepth 100000 in
theorem wts_take_succ {ts : List Tm} {i : Nat} {t : Tm} (h : ts[i]? = some t) : wts (ts.take (i + 1)) = wts (ts.take i) + wt t := by
  rw [List.take_add_one, h, wts_append]
  simp [wts]
set_option maxRecDepth 100000 in
theorem wt_pos (t : Tm) : 1 ≤ t.wt := by
  cases t
  rw [wt]
  split
  · omega
  split
  · omega
  split <;> omega
set_option maxRecDepth 100000 in
theorem wts_take_le (ts : List Tm) (i : Nat) : wts (ts.take i) ≤ wts ts := by
  have := wts_append (ts.take i) (ts.drop i)
  rw [List.take_append_drop] at this
  omega
set_option maxRecDepth 100000 in
theorem wts_len (ts : List Tm) : ts.length ≤ wts ts := by
  induction ts with
  | nil => simp [wts]
  | cons t r ih => have := wt_pos t; simp [wts]; omega

mutual
/-- No part has too many bytes or limbs. -/
def Ok : Tm → Prop
  | .mk _ _ _ l _ s ks => l.length ≤ 300 ∧ s.size ≤ 65535 ∧ Oks ks
def Oks : List Tm → Prop
  | [] => True
  | t :: r => Ok t ∧ Oks r
end
set_option maxRecDepth 100000 in
theorem oks_iff {ts : List Tm} : Oks ts ↔ ∀ t ∈ ts, Ok t := by
  induction ts with
  | nil => simp [Oks]
  | cons t r ih => simp [Oks, ih]
set_option maxRecDepth 100000 in
theorem ok_mk {k n : Int} {g : Bool} {l : List Nat} {u : Int} {s : ByteArray} {ks : List Tm} : Ok (.mk k n g l u s ks) ↔ l.length ≤ 300 ∧ s.size ≤ 65535 ∧ ∀ t ∈ ks, Ok t := by
  rw [Ok, oks_iff]

/-- Has a term itself too many bytes or limbs? -/
def big : Tm → Bool | .mk _ _ _ l _ s _ => decide (1000 < s.size) || decide (40 < l.length)
mutual
/-- How many parts the arguments of a term have, as far as so many. -/
def prt : Tm → Int → Int
  | .mk _ _ _ _ _ _ ks, most => prts ks 0 most
def prts : List Tm → Int → Int → Int
  | [], n, _ => n
  | t :: r, n, most => if n ≤ most then if big t then most + 1 else prts r (n + 1 + prt t (most - n - 1)) most else n
end

/-- How many parts a term has, itself among them. -/
def size : Tm → Nat
  | .mk _ _ _ _ _ _ ks => 1 + sizes ks
where sizes : List Tm → Nat
  | [] => 0
  | t :: r => size t + sizes r

set_option maxRecDepth 100000 in
theorem prts_bound (ts : List Tm) (h : ∀ t ∈ ts, ∀ most, -1 ≤ most → 0 ≤ prt t most ∧ prt t most ≤ most + 1) :
    ∀ n most : Int, 0 ≤ n → n ≤ most + 1 → n ≤ prts ts n most ∧ prts ts n most ≤ most + 1 := by
  induction ts with
  | nil => intro n most _ h1; simp only [prts]; omega
  | cons t r ih =>
    intro n most h0 h1
    simp only [prts]
    split
    · split
      · omega
      · have hp := h t List.mem_cons_self (most - n - 1) (by omega)
        have := ih (fun x hx => h x (List.mem_cons_of_mem _ hx)) (n + 1 + prt t (most - n - 1)) most (by omega) (by omega)
        omega
    · omega
set_option maxRecDepth 100000 in
theorem prt_bound (t : Tm) : ∀ most : Int, -1 ≤ most → 0 ≤ prt t most ∧ prt t most ≤ most + 1 := by
  induction t using ind with
  | h k n g l u s ks ih =>
    intro most hm
    rw [prt]
    exact prts_bound ks ih 0 most (by omega) (by omega)
set_option maxRecDepth 100000 in
theorem prts_bd (ts : List Tm) (n most : Int) (h0 : 0 ≤ n) (h1 : n ≤ most + 1) : n ≤ prts ts n most ∧ prts ts n most ≤ most + 1 :=
  prts_bound ts (fun t _ => prt_bound t) n most h0 h1

set_option maxRecDepth 100000 in
theorem prts_fine (ts : List Tm) (h : ∀ t ∈ ts, ∀ most : Int, prt t most ≤ most → -1 ≤ most → (∀ x ∈ t.args, Ok x) ∧ (t.size : Int) ≤ prt t most + 1) :
    ∀ n most : Int, 0 ≤ n → prts ts n most ≤ most → n + (size.sizes ts : Nat) ≤ prts ts n most ∧ ∀ t ∈ ts, Ok t := by
  induction ts with
  | nil => intro n most _ _; simp [prts, size.sizes]
  | cons t r ih =>
    intro n most h0 h1
    simp only [prts] at h1 ⊢
    by_cases hn : n ≤ most
    · rw [if_pos hn] at h1 ⊢
      by_cases hb : big t = true
      · rw [if_pos hb] at h1; omega
      · rw [if_neg hb] at h1 ⊢
        have hp := prt_bound t (most - n - 1) (by omega)
        have hbd := prts_bd r (n + 1 + prt t (most - n - 1)) most (by omega) (by omega)
        obtain ⟨i1, i2⟩ := ih (fun x hx => h x (List.mem_cons_of_mem _ hx)) _ most (by omega) h1
        obtain ⟨j1, j2⟩ := h t List.mem_cons_self (most - n - 1) (by omega) (by omega)
        refine ⟨by simp only [size.sizes]; omega, fun x hx => ?_⟩
        rcases List.mem_cons.1 hx with rfl | hx
        · cases x with
          | mk k n g l u s ks =>
            simp [big] at hb
            rw [ok_mk]
            exact ⟨by omega, by omega, j1⟩
        · exact i2 x hx
    · rw [if_neg hn] at h1; omega
set_option maxRecDepth 100000 in
theorem prt_fine (t : Tm) : ∀ most : Int, prt t most ≤ most → -1 ≤ most → (∀ x ∈ t.args, Ok x) ∧ (t.size : Int) ≤ prt t most + 1 := by
  induction t using ind with
  | h k n g l u s ks ih =>
    intro most h1 h2
    rw [prt] at h1 ⊢
    obtain ⟨i1, i2⟩ := prts_fine ks ih 0 most (by omega) h1
    refine ⟨i2, ?_⟩
    rw [size]
    omega
set_option maxRecDepth 100000 in
/-- Of terms that are not more than is gone through each one is modest, and there are not too many. -/
theorem fine {ts : List Tm} {most : Int} (h : prts ts 0 most ≤ most) : (size.sizes ts : Int) ≤ most ∧ ∀ t ∈ ts, Ok t := by
  obtain ⟨i1, i2⟩ := prts_fine ts (fun t _ => prt_fine t) 0 most (by omega) h
  exact ⟨by omega, i2⟩
set_option maxRecDepth 100000 in
theorem size_pos (t : Tm) : 1 ≤ t.size := by cases t; rw [size]; omega
set_option maxRecDepth 100000 in
theorem sizes_len (ts : List Tm) : ts.length ≤ size.sizes ts := by
  induction ts with
  | nil => simp
  | cons t r ih => have := size_pos t; simp [size.sizes]; omega

set_option maxRecDepth 100000 in
theorem prts_append (a b : List Tm) : ∀ n most : Int, prts (a ++ b) n most = if prts a n most ≤ most then prts b (prts a n most) most else prts a n most := by
  induction a with
  | nil =>
    intro n most
    have e : prts [] n most = n := by rw [prts]
    rw [e, List.nil_append]
    by_cases hn : n ≤ most
    · rw [if_pos hn]
    · rw [if_neg hn]
      cases b with
      | nil => exact e
      | cons t r => rw [prts, if_neg hn]
  | cons t r ih =>
    intro n most
    by_cases hn : n ≤ most
    · by_cases hb : big t = true
      · have e : prts (t :: r) n most = most + 1 := by rw [prts, if_pos hn, if_pos hb]
        rw [e, List.cons_append, prts, if_pos hn, if_pos hb, if_neg (by omega)]
      · have e : prts (t :: r) n most = prts r (n + 1 + prt t (most - n - 1)) most := by rw [prts, if_pos hn, if_neg hb]
        rw [e, List.cons_append, prts, if_pos hn, if_neg hb]
        exact ih _ _
    · have e : prts (t :: r) n most = n := by rw [prts, if_neg hn]
      rw [e, List.cons_append, prts, if_neg hn, if_neg hn]

end Tm
end Go.Proofs.YtejmmjedognaaaaGreat
