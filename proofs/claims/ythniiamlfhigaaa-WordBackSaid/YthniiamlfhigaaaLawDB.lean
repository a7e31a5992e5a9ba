/-
  THE LAW WordBack.
-/
import Derived.Test.YthniiamlfhigaaaWdB
namespace Go.Proofs.Ythniiamlfhigaaa
open Go.RowKit

set_option maxRecDepth 100000 in
theorem wd0 : Wd 0 := by unfold Wd; omega
set_option maxRecDepth 100000 in
theorem mk_ne {t l o : Int} (h : pmB t l = true) (h' : pmB t o = true) (e : ¬ l = o) : ¬ mkZ t l = mkZ t o := fun he => e (by rw [← ld_mk h, ← ld_mk h', he])

set_option maxRecDepth 100000 in
set_option maxHeartbeats 4000000 in
theorem back_fff (t l o k s : Int) (G1 : Hid (pmB t l = false)) (G2 : Hid (pmB t o = false)) (G3 : Hid (hdB k s = false)) (W : World) :
    Calls Try.prog 4 #[.int .i64 t, .int .i64 l, .int .i64 o, .int .i64 k, .int .i64 s] W fun e W' => e = .returned (.bool true) ∧ Below W.heap.size W W' := by
  have hz := Below.refl W.heap.size W
  go_enter Try.func4, Try.ntmps4
  go_wp2_with (first
      | (go_at_call 5; (with_reducible refine (make_any _ l _).mono ?_); rw [G1.out]; rintro e w' ⟨rfl, rfl⟩)
      | (go_at_call 5; (with_reducible refine (make_any _ o _).mono ?_); rw [G2.out]; rintro e w' ⟨rfl, rfl⟩)
      | (go_at_call 7; (with_reducible refine (head_any _ _ _).mono ?_); rw [G3.out]; rintro e w' ⟨rfl, rfl⟩)
      | (go_at_call 9; (with_reducible refine (parts_any _ wd0 _).mono ?_); rintro e w' ⟨rfl, hb⟩; replace hz := hz.trans (hb.mono hz.size))
      | (go_at_call 17; (with_reducible refine (awake8_any _).mono ?_); rintro e w3 ⟨rfl, hb⟩; replace hz := hz.trans (hb.mono hz.size)))
  go_ret
  exact ⟨rfl, by first | exact hz | exact hz.drew⟩

set_option maxRecDepth 100000 in
set_option maxHeartbeats 4000000 in
theorem back_ftf (t l o k s : Int) (G1 : Hid (pmB t l = false)) (G2 : Hid (pmB t o = true)) (G3 : Hid (hdB k s = false)) (W : World) :
    Calls Try.prog 4 #[.int .i64 t, .int .i64 l, .int .i64 o, .int .i64 k, .int .i64 s] W fun e W' => e = .returned (.bool true) ∧ Below W.heap.size W W' := by
  have hz := Below.refl W.heap.size W
  go_enter Try.func4, Try.ntmps4
  go_wp2_with (first
      | (go_at_call 5; (with_reducible refine (make_any _ l _).mono ?_); rw [G1.out]; rintro e w' ⟨rfl, rfl⟩)
      | (go_at_call 5; (with_reducible refine (make_any _ o _).mono ?_); rw [G2.out, if_pos rfl]; rintro e w' ⟨rfl, rfl⟩)
      | (go_at_call 7; (with_reducible refine (head_any _ _ _).mono ?_); rw [G3.out]; rintro e w' ⟨rfl, rfl⟩)
      | (go_at_call 9; (with_reducible refine (parts_any _ wd0 _).mono ?_); rintro e w' ⟨rfl, hb⟩; replace hz := hz.trans (hb.mono hz.size))
      | (go_at_call 17; (with_reducible refine (awake8_any _).mono ?_); rintro e w3 ⟨rfl, hb⟩; replace hz := hz.trans (hb.mono hz.size)))
  go_ret
  exact ⟨rfl, by first | exact hz | exact hz.drew⟩

set_option maxRecDepth 100000 in
set_option maxHeartbeats 4000000 in
theorem back_tff (t l o k s : Int) (G1 : Hid (pmB t l = true)) (G2 : Hid (pmB t o = false)) (G3 : Hid (hdB k s = false)) (W : World) :
    Calls Try.prog 4 #[.int .i64 t, .int .i64 l, .int .i64 o, .int .i64 k, .int .i64 s] W fun e W' => e = .returned (.bool true) ∧ Below W.heap.size W W' := by
  have hz := Below.refl W.heap.size W
  obtain ⟨x, hx⟩ : ∃ x, mkZ t l = x := ⟨_, rfl⟩
  have HX : Hid (Wd x) := Lib.hid (by rw [← hx]; exact mk_wd G1.out)
  have T1 : Hid (x % 8 = t) := Lib.hid (by rw [← hx]; exact tag_mk G1.out)
  have L1 : Hid (ldZ x = l) := Lib.hid (by rw [← hx]; exact ld_mk G1.out)
  obtain ⟨p5, hp5⟩ : ∃ p5, decide (t ≤ 5) = p5 := ⟨_, rfl⟩
  have P1 : Hid (plB x = p5) := Lib.hid (by rw [← hx, ← hp5]; exact pl_mk G1.out)
  have hx := Lib.hid hx
  cases p5
  all_goals go_enter Try.func4, Try.ntmps4
  all_goals go_wp2_with (first
      | (go_at_call 5; (with_reducible refine (make_any _ l _).mono ?_); rw [G1.out, if_pos rfl, hx.out]; rintro e w' ⟨rfl, rfl⟩)
      | (go_at_call 5; (with_reducible refine (make_any _ o _).mono ?_); rw [G2.out]; rintro e w' ⟨rfl, rfl⟩)
      | (go_at_call 7; (with_reducible refine (head_any _ _ _).mono ?_); rw [G3.out]; rintro e w' ⟨rfl, rfl⟩)
      | (go_at_call 9; (with_reducible refine (parts_any _ wd0 _).mono ?_); rintro e w' ⟨rfl, hb⟩; replace hz := hz.trans (hb.mono hz.size))
      | (go_at_call 11; (with_reducible refine (tag_any _ HX.out _).mono ?_); rw [T1.out]; rintro e w' ⟨rfl, rfl⟩)
      | (go_at_call 13; (with_reducible refine (load_any _ HX.out _).mono ?_); rw [L1.out]; rintro e w' ⟨rfl, rfl⟩)
      | (go_at_call 15; (with_reducible refine (plain_any _ HX.out _).mono ?_); rw [P1.out]; rintro e w1 ⟨rfl, hb⟩; replace hz := hz.trans (hb.mono hz.size))
      | (go_at_call 17; (with_reducible refine (awake8_any _).mono ?_); rintro e w3 ⟨rfl, hb⟩; replace hz := hz.trans (hb.mono hz.size)))
  all_goals go_ret
  all_goals exact ⟨rfl, by first | exact hz | exact hz.drew⟩

set_option maxRecDepth 100000 in
set_option maxHeartbeats 4000000 in
theorem back_ttfy (t l o k s : Int) (G1 : Hid (pmB t l = true)) (G2 : Hid (pmB t o = true)) (G3 : Hid (hdB k s = false)) (e : l = o) (W : World) :
    Calls Try.prog 4 #[.int .i64 t, .int .i64 l, .int .i64 o, .int .i64 k, .int .i64 s] W fun e W' => e = .returned (.bool true) ∧ Below W.heap.size W W' := by
  have hz := Below.refl W.heap.size W
  subst e
  obtain ⟨x, hx⟩ : ∃ x, mkZ t l = x := ⟨_, rfl⟩
  have HX : Hid (Wd x) := Lib.hid (by rw [← hx]; exact mk_wd G1.out)
  have T1 : Hid (x % 8 = t) := Lib.hid (by rw [← hx]; exact tag_mk G1.out)
  have L1 : Hid (ldZ x = l) := Lib.hid (by rw [← hx]; exact ld_mk G1.out)
  obtain ⟨p5, hp5⟩ : ∃ p5, decide (t ≤ 5) = p5 := ⟨_, rfl⟩
  have P1 : Hid (plB x = p5) := Lib.hid (by rw [← hx, ← hp5]; exact pl_mk G1.out)
  have hx := Lib.hid hx
  cases p5
  all_goals go_enter Try.func4, Try.ntmps4
  all_goals go_wp2_with (first
      | (go_at_call 5; (with_reducible refine (make_any _ _ _).mono ?_); rw [G1.out, if_pos rfl, hx.out]; rintro e w' ⟨rfl, rfl⟩)
      | (go_at_call 7; (with_reducible refine (head_any _ _ _).mono ?_); rw [G3.out]; rintro e w' ⟨rfl, rfl⟩)
      | (go_at_call 9; (with_reducible refine (parts_any _ wd0 _).mono ?_); rintro e w' ⟨rfl, hb⟩; replace hz := hz.trans (hb.mono hz.size))
      | (go_at_call 11; (with_reducible refine (tag_any _ HX.out _).mono ?_); rw [T1.out]; rintro e w' ⟨rfl, rfl⟩)
      | (go_at_call 13; (with_reducible refine (load_any _ HX.out _).mono ?_); rw [L1.out]; rintro e w' ⟨rfl, rfl⟩)
      | (go_at_call 15; (with_reducible refine (plain_any _ HX.out _).mono ?_); rw [P1.out]; rintro e w1 ⟨rfl, hb⟩; replace hz := hz.trans (hb.mono hz.size))
      | (go_at_call 17; (with_reducible refine (awake8_any _).mono ?_); rintro e w3 ⟨rfl, hb⟩; replace hz := hz.trans (hb.mono hz.size)))
  all_goals go_ret
  all_goals exact ⟨rfl, by first | exact hz | exact hz.drew⟩

set_option maxRecDepth 100000 in
set_option maxHeartbeats 4000000 in
theorem back_ttfn (t l o k s : Int) (G1 : Hid (pmB t l = true)) (G2 : Hid (pmB t o = true)) (G3 : Hid (hdB k s = false)) (e : ¬ l = o) (W : World) :
    Calls Try.prog 4 #[.int .i64 t, .int .i64 l, .int .i64 o, .int .i64 k, .int .i64 s] W fun e W' => e = .returned (.bool true) ∧ Below W.heap.size W W' := by
  have hz := Below.refl W.heap.size W
  obtain ⟨x, hx⟩ : ∃ x, mkZ t l = x := ⟨_, rfl⟩
  have HX : Hid (Wd x) := Lib.hid (by rw [← hx]; exact mk_wd G1.out)
  have T1 : Hid (x % 8 = t) := Lib.hid (by rw [← hx]; exact tag_mk G1.out)
  have L1 : Hid (ldZ x = l) := Lib.hid (by rw [← hx]; exact ld_mk G1.out)
  obtain ⟨p5, hp5⟩ : ∃ p5, decide (t ≤ 5) = p5 := ⟨_, rfl⟩
  have P1 : Hid (plB x = p5) := Lib.hid (by rw [← hx, ← hp5]; exact pl_mk G1.out)
  obtain ⟨x', hx'⟩ : ∃ x', mkZ t o = x' := ⟨_, rfl⟩
  have n1 : (x == x') = false := by rw [beq_eq_false_iff_ne, ← hx, ← hx']; exact mk_ne G1.out G2.out e
  have n2 : (l == o) = false := by rw [beq_eq_false_iff_ne]; exact e
  have hx' := Lib.hid hx'
  clear e
  have hx := Lib.hid hx
  cases p5
  all_goals go_enter Try.func4, Try.ntmps4
  all_goals go_wp2_with (first
      | (go_at_call 5; (with_reducible refine (make_any _ l _).mono ?_); rw [G1.out, if_pos rfl, hx.out]; rintro e w' ⟨rfl, rfl⟩)
      | (go_at_call 5; (with_reducible refine (make_any _ o _).mono ?_); rw [G2.out, if_pos rfl, hx'.out]; rintro e w' ⟨rfl, rfl⟩)
      | (go_at_call 7; (with_reducible refine (head_any _ _ _).mono ?_); rw [G3.out]; rintro e w' ⟨rfl, rfl⟩)
      | (go_at_call 9; (with_reducible refine (parts_any _ wd0 _).mono ?_); rintro e w' ⟨rfl, hb⟩; replace hz := hz.trans (hb.mono hz.size))
      | (go_at_call 11; (with_reducible refine (tag_any _ HX.out _).mono ?_); rw [T1.out]; rintro e w' ⟨rfl, rfl⟩)
      | (go_at_call 13; (with_reducible refine (load_any _ HX.out _).mono ?_); rw [L1.out]; rintro e w' ⟨rfl, rfl⟩)
      | (go_at_call 15; (with_reducible refine (plain_any _ HX.out _).mono ?_); rw [P1.out]; rintro e w1 ⟨rfl, hb⟩; replace hz := hz.trans (hb.mono hz.size))
      | (go_at_call 17; (with_reducible refine (awake8_any _).mono ?_); rintro e w3 ⟨rfl, hb⟩; replace hz := hz.trans (hb.mono hz.size)))
  all_goals go_ret
  all_goals exact ⟨rfl, by first | exact hz | exact hz.drew⟩

set_option maxRecDepth 100000 in
set_option maxHeartbeats 4000000 in
theorem back_fft (t l o k s : Int) (G1 : Hid (pmB t l = false)) (G2 : Hid (pmB t o = false)) (G3 : Hid (hdB k s = true)) (W : World) :
    Calls Try.prog 4 #[.int .i64 t, .int .i64 l, .int .i64 o, .int .i64 k, .int .i64 s] W fun e W' => e = .returned (.bool true) ∧ Below W.heap.size W W' := by
  have hz := Below.refl W.heap.size W
  obtain ⟨y, hy⟩ : ∃ y, hdZ k s = y := ⟨_, rfl⟩
  have HY : Hid (Wd y) := Lib.hid (by rw [← hy]; exact hd_wd G3.out)
  obtain ⟨h1, h2, h3, h4⟩ := pt_hd G3.out
  rw [hy] at h1 h2 h3 h4
  have Y1 := Lib.hid h1
  have Y2 := Lib.hid h2
  have Y3 := Lib.hid h3
  have Y4 := Lib.hid h4
  have Y5 : Hid (plB y = false) := Lib.hid (by unfold plB; rw [h4]; rfl)
  clear h1 h2 h3 h4
  have hy := Lib.hid hy
  go_enter Try.func4, Try.ntmps4
  go_wp2_with (first
      | (go_at_call 5; (with_reducible refine (make_any _ l _).mono ?_); rw [G1.out]; rintro e w' ⟨rfl, rfl⟩)
      | (go_at_call 5; (with_reducible refine (make_any _ o _).mono ?_); rw [G2.out]; rintro e w' ⟨rfl, rfl⟩)
      | (go_at_call 7; (with_reducible refine (head_any _ _ _).mono ?_); rw [G3.out, if_pos rfl, hy.out]; rintro e w' ⟨rfl, rfl⟩)
      | (go_at_call 9; (with_reducible refine (parts_any _ HY.out _).mono ?_); rw [Y1.out, Y2.out, Y3.out, if_pos rfl, if_pos rfl]; rintro e w' ⟨rfl, hb⟩; replace hz := hz.trans (hb.mono hz.size))
      | (go_at_call 11; (with_reducible refine (tag_any _ HY.out _).mono ?_); rw [Y4.out]; rintro e w' ⟨rfl, rfl⟩)
      | (go_at_call 15; (with_reducible refine (plain_any _ HY.out _).mono ?_); rw [Y5.out]; rintro e w2 ⟨rfl, hb⟩; replace hz := hz.trans (hb.mono hz.size))
      | (go_at_call 17; (with_reducible refine (awake8_any _).mono ?_); rintro e w3 ⟨rfl, hb⟩; replace hz := hz.trans (hb.mono hz.size)))
  go_ret
  exact ⟨rfl, by first | exact hz | exact hz.drew⟩

set_option maxRecDepth 100000 in
set_option maxHeartbeats 4000000 in
theorem back_ftt (t l o k s : Int) (G1 : Hid (pmB t l = false)) (G2 : Hid (pmB t o = true)) (G3 : Hid (hdB k s = true)) (W : World) :
    Calls Try.prog 4 #[.int .i64 t, .int .i64 l, .int .i64 o, .int .i64 k, .int .i64 s] W fun e W' => e = .returned (.bool true) ∧ Below W.heap.size W W' := by
  have hz := Below.refl W.heap.size W
  obtain ⟨y, hy⟩ : ∃ y, hdZ k s = y := ⟨_, rfl⟩
  have HY : Hid (Wd y) := Lib.hid (by rw [← hy]; exact hd_wd G3.out)
  obtain ⟨h1, h2, h3, h4⟩ := pt_hd G3.out
  rw [hy] at h1 h2 h3 h4
  have Y1 := Lib.hid h1
  have Y2 := Lib.hid h2
  have Y3 := Lib.hid h3
  have Y4 := Lib.hid h4
  have Y5 : Hid (plB y = false) := Lib.hid (by unfold plB; rw [h4]; rfl)
  clear h1 h2 h3 h4
  have hy := Lib.hid hy
  go_enter Try.func4, Try.ntmps4
  go_wp2_with (first
      | (go_at_call 5; (with_reducible refine (make_any _ l _).mono ?_); rw [G1.out]; rintro e w' ⟨rfl, rfl⟩)
      | (go_at_call 5; (with_reducible refine (make_any _ o _).mono ?_); rw [G2.out, if_pos rfl]; rintro e w' ⟨rfl, rfl⟩)
      | (go_at_call 7; (with_reducible refine (head_any _ _ _).mono ?_); rw [G3.out, if_pos rfl, hy.out]; rintro e w' ⟨rfl, rfl⟩)
      | (go_at_call 9; (with_reducible refine (parts_any _ HY.out _).mono ?_); rw [Y1.out, Y2.out, Y3.out, if_pos rfl, if_pos rfl]; rintro e w' ⟨rfl, hb⟩; replace hz := hz.trans (hb.mono hz.size))
      | (go_at_call 11; (with_reducible refine (tag_any _ HY.out _).mono ?_); rw [Y4.out]; rintro e w' ⟨rfl, rfl⟩)
      | (go_at_call 15; (with_reducible refine (plain_any _ HY.out _).mono ?_); rw [Y5.out]; rintro e w2 ⟨rfl, hb⟩; replace hz := hz.trans (hb.mono hz.size))
      | (go_at_call 17; (with_reducible refine (awake8_any _).mono ?_); rintro e w3 ⟨rfl, hb⟩; replace hz := hz.trans (hb.mono hz.size)))
  go_ret
  exact ⟨rfl, by first | exact hz | exact hz.drew⟩

set_option maxRecDepth 100000 in
set_option maxHeartbeats 4000000 in
theorem back_tft (t l o k s : Int) (G1 : Hid (pmB t l = true)) (G2 : Hid (pmB t o = false)) (G3 : Hid (hdB k s = true)) (W : World) :
    Calls Try.prog 4 #[.int .i64 t, .int .i64 l, .int .i64 o, .int .i64 k, .int .i64 s] W fun e W' => e = .returned (.bool true) ∧ Below W.heap.size W W' := by
  have hz := Below.refl W.heap.size W
  obtain ⟨x, hx⟩ : ∃ x, mkZ t l = x := ⟨_, rfl⟩
  have HX : Hid (Wd x) := Lib.hid (by rw [← hx]; exact mk_wd G1.out)
  have T1 : Hid (x % 8 = t) := Lib.hid (by rw [← hx]; exact tag_mk G1.out)
  have L1 : Hid (ldZ x = l) := Lib.hid (by rw [← hx]; exact ld_mk G1.out)
  obtain ⟨p5, hp5⟩ : ∃ p5, decide (t ≤ 5) = p5 := ⟨_, rfl⟩
  have P1 : Hid (plB x = p5) := Lib.hid (by rw [← hx, ← hp5]; exact pl_mk G1.out)
  have hx := Lib.hid hx
  obtain ⟨y, hy⟩ : ∃ y, hdZ k s = y := ⟨_, rfl⟩
  have HY : Hid (Wd y) := Lib.hid (by rw [← hy]; exact hd_wd G3.out)
  obtain ⟨h1, h2, h3, h4⟩ := pt_hd G3.out
  rw [hy] at h1 h2 h3 h4
  have Y1 := Lib.hid h1
  have Y2 := Lib.hid h2
  have Y3 := Lib.hid h3
  have Y4 := Lib.hid h4
  have Y5 : Hid (plB y = false) := Lib.hid (by unfold plB; rw [h4]; rfl)
  clear h1 h2 h3 h4
  have hy := Lib.hid hy
  cases p5
  all_goals go_enter Try.func4, Try.ntmps4
  all_goals go_wp2_with (first
      | (go_at_call 5; (with_reducible refine (make_any _ l _).mono ?_); rw [G1.out, if_pos rfl, hx.out]; rintro e w' ⟨rfl, rfl⟩)
      | (go_at_call 5; (with_reducible refine (make_any _ o _).mono ?_); rw [G2.out]; rintro e w' ⟨rfl, rfl⟩)
      | (go_at_call 7; (with_reducible refine (head_any _ _ _).mono ?_); rw [G3.out, if_pos rfl, hy.out]; rintro e w' ⟨rfl, rfl⟩)
      | (go_at_call 9; (with_reducible refine (parts_any _ HY.out _).mono ?_); rw [Y1.out, Y2.out, Y3.out, if_pos rfl, if_pos rfl]; rintro e w' ⟨rfl, hb⟩; replace hz := hz.trans (hb.mono hz.size))
      | (go_at_call 11; (with_reducible refine (tag_any _ HY.out _).mono ?_); rw [Y4.out]; rintro e w' ⟨rfl, rfl⟩)
      | (go_at_call 15; (with_reducible refine (plain_any _ HY.out _).mono ?_); rw [Y5.out]; rintro e w2 ⟨rfl, hb⟩; replace hz := hz.trans (hb.mono hz.size))
      | (go_at_call 11; (with_reducible refine (tag_any _ HX.out _).mono ?_); rw [T1.out]; rintro e w' ⟨rfl, rfl⟩)
      | (go_at_call 13; (with_reducible refine (load_any _ HX.out _).mono ?_); rw [L1.out]; rintro e w' ⟨rfl, rfl⟩)
      | (go_at_call 15; (with_reducible refine (plain_any _ HX.out _).mono ?_); rw [P1.out]; rintro e w1 ⟨rfl, hb⟩; replace hz := hz.trans (hb.mono hz.size))
      | (go_at_call 17; (with_reducible refine (awake8_any _).mono ?_); rintro e w3 ⟨rfl, hb⟩; replace hz := hz.trans (hb.mono hz.size)))
  all_goals go_ret
  all_goals exact ⟨rfl, by first | exact hz | exact hz.drew⟩

set_option maxRecDepth 100000 in
set_option maxHeartbeats 4000000 in
theorem back_ttty (t l o k s : Int) (G1 : Hid (pmB t l = true)) (G2 : Hid (pmB t o = true)) (G3 : Hid (hdB k s = true)) (e : l = o) (W : World) :
    Calls Try.prog 4 #[.int .i64 t, .int .i64 l, .int .i64 o, .int .i64 k, .int .i64 s] W fun e W' => e = .returned (.bool true) ∧ Below W.heap.size W W' := by
  have hz := Below.refl W.heap.size W
  subst e
  obtain ⟨x, hx⟩ : ∃ x, mkZ t l = x := ⟨_, rfl⟩
  have HX : Hid (Wd x) := Lib.hid (by rw [← hx]; exact mk_wd G1.out)
  have T1 : Hid (x % 8 = t) := Lib.hid (by rw [← hx]; exact tag_mk G1.out)
  have L1 : Hid (ldZ x = l) := Lib.hid (by rw [← hx]; exact ld_mk G1.out)
  obtain ⟨p5, hp5⟩ : ∃ p5, decide (t ≤ 5) = p5 := ⟨_, rfl⟩
  have P1 : Hid (plB x = p5) := Lib.hid (by rw [← hx, ← hp5]; exact pl_mk G1.out)
  have hx := Lib.hid hx
  obtain ⟨y, hy⟩ : ∃ y, hdZ k s = y := ⟨_, rfl⟩
  have HY : Hid (Wd y) := Lib.hid (by rw [← hy]; exact hd_wd G3.out)
  obtain ⟨h1, h2, h3, h4⟩ := pt_hd G3.out
  rw [hy] at h1 h2 h3 h4
  have Y1 := Lib.hid h1
  have Y2 := Lib.hid h2
  have Y3 := Lib.hid h3
  have Y4 := Lib.hid h4
  have Y5 : Hid (plB y = false) := Lib.hid (by unfold plB; rw [h4]; rfl)
  clear h1 h2 h3 h4
  have hy := Lib.hid hy
  cases p5
  all_goals go_enter Try.func4, Try.ntmps4
  all_goals go_wp2_with (first
      | (go_at_call 5; (with_reducible refine (make_any _ _ _).mono ?_); rw [G1.out, if_pos rfl, hx.out]; rintro e w' ⟨rfl, rfl⟩)
      | (go_at_call 7; (with_reducible refine (head_any _ _ _).mono ?_); rw [G3.out, if_pos rfl, hy.out]; rintro e w' ⟨rfl, rfl⟩)
      | (go_at_call 9; (with_reducible refine (parts_any _ HY.out _).mono ?_); rw [Y1.out, Y2.out, Y3.out, if_pos rfl, if_pos rfl]; rintro e w' ⟨rfl, hb⟩; replace hz := hz.trans (hb.mono hz.size))
      | (go_at_call 11; (with_reducible refine (tag_any _ HY.out _).mono ?_); rw [Y4.out]; rintro e w' ⟨rfl, rfl⟩)
      | (go_at_call 15; (with_reducible refine (plain_any _ HY.out _).mono ?_); rw [Y5.out]; rintro e w2 ⟨rfl, hb⟩; replace hz := hz.trans (hb.mono hz.size))
      | (go_at_call 11; (with_reducible refine (tag_any _ HX.out _).mono ?_); rw [T1.out]; rintro e w' ⟨rfl, rfl⟩)
      | (go_at_call 13; (with_reducible refine (load_any _ HX.out _).mono ?_); rw [L1.out]; rintro e w' ⟨rfl, rfl⟩)
      | (go_at_call 15; (with_reducible refine (plain_any _ HX.out _).mono ?_); rw [P1.out]; rintro e w1 ⟨rfl, hb⟩; replace hz := hz.trans (hb.mono hz.size))
      | (go_at_call 17; (with_reducible refine (awake8_any _).mono ?_); rintro e w3 ⟨rfl, hb⟩; replace hz := hz.trans (hb.mono hz.size)))
  all_goals go_ret
  all_goals exact ⟨rfl, by first | exact hz | exact hz.drew⟩

set_option maxRecDepth 100000 in
set_option maxHeartbeats 4000000 in
theorem back_tttn (t l o k s : Int) (G1 : Hid (pmB t l = true)) (G2 : Hid (pmB t o = true)) (G3 : Hid (hdB k s = true)) (e : ¬ l = o) (W : World) :
    Calls Try.prog 4 #[.int .i64 t, .int .i64 l, .int .i64 o, .int .i64 k, .int .i64 s] W fun e W' => e = .returned (.bool true) ∧ Below W.heap.size W W' := by
  have hz := Below.refl W.heap.size W
  obtain ⟨x, hx⟩ : ∃ x, mkZ t l = x := ⟨_, rfl⟩
  have HX : Hid (Wd x) := Lib.hid (by rw [← hx]; exact mk_wd G1.out)
  have T1 : Hid (x % 8 = t) := Lib.hid (by rw [← hx]; exact tag_mk G1.out)
  have L1 : Hid (ldZ x = l) := Lib.hid (by rw [← hx]; exact ld_mk G1.out)
  obtain ⟨p5, hp5⟩ : ∃ p5, decide (t ≤ 5) = p5 := ⟨_, rfl⟩
  have P1 : Hid (plB x = p5) := Lib.hid (by rw [← hx, ← hp5]; exact pl_mk G1.out)
  obtain ⟨x', hx'⟩ : ∃ x', mkZ t o = x' := ⟨_, rfl⟩
  have n1 : (x == x') = false := by rw [beq_eq_false_iff_ne, ← hx, ← hx']; exact mk_ne G1.out G2.out e
  have n2 : (l == o) = false := by rw [beq_eq_false_iff_ne]; exact e
  have hx' := Lib.hid hx'
  clear e
  have hx := Lib.hid hx
  obtain ⟨y, hy⟩ : ∃ y, hdZ k s = y := ⟨_, rfl⟩
  have HY : Hid (Wd y) := Lib.hid (by rw [← hy]; exact hd_wd G3.out)
  obtain ⟨h1, h2, h3, h4⟩ := pt_hd G3.out
  rw [hy] at h1 h2 h3 h4
  have Y1 := Lib.hid h1
  have Y2 := Lib.hid h2
  have Y3 := Lib.hid h3
  have Y4 := Lib.hid h4
  have Y5 : Hid (plB y = false) := Lib.hid (by unfold plB; rw [h4]; rfl)
  clear h1 h2 h3 h4
  have hy := Lib.hid hy
  cases p5
  all_goals go_enter Try.func4, Try.ntmps4
  all_goals go_wp2_with (first
      | (go_at_call 5; (with_reducible refine (make_any _ l _).mono ?_); rw [G1.out, if_pos rfl, hx.out]; rintro e w' ⟨rfl, rfl⟩)
      | (go_at_call 5; (with_reducible refine (make_any _ o _).mono ?_); rw [G2.out, if_pos rfl, hx'.out]; rintro e w' ⟨rfl, rfl⟩)
      | (go_at_call 7; (with_reducible refine (head_any _ _ _).mono ?_); rw [G3.out, if_pos rfl, hy.out]; rintro e w' ⟨rfl, rfl⟩)
      | (go_at_call 9; (with_reducible refine (parts_any _ HY.out _).mono ?_); rw [Y1.out, Y2.out, Y3.out, if_pos rfl, if_pos rfl]; rintro e w' ⟨rfl, hb⟩; replace hz := hz.trans (hb.mono hz.size))
      | (go_at_call 11; (with_reducible refine (tag_any _ HY.out _).mono ?_); rw [Y4.out]; rintro e w' ⟨rfl, rfl⟩)
      | (go_at_call 15; (with_reducible refine (plain_any _ HY.out _).mono ?_); rw [Y5.out]; rintro e w2 ⟨rfl, hb⟩; replace hz := hz.trans (hb.mono hz.size))
      | (go_at_call 11; (with_reducible refine (tag_any _ HX.out _).mono ?_); rw [T1.out]; rintro e w' ⟨rfl, rfl⟩)
      | (go_at_call 13; (with_reducible refine (load_any _ HX.out _).mono ?_); rw [L1.out]; rintro e w' ⟨rfl, rfl⟩)
      | (go_at_call 15; (with_reducible refine (plain_any _ HX.out _).mono ?_); rw [P1.out]; rintro e w1 ⟨rfl, hb⟩; replace hz := hz.trans (hb.mono hz.size))
      | (go_at_call 17; (with_reducible refine (awake8_any _).mono ?_); rintro e w3 ⟨rfl, hb⟩; replace hz := hz.trans (hb.mono hz.size)))
  all_goals go_ret
  all_goals exact ⟨rfl, by first | exact hz | exact hz.drew⟩

set_option maxRecDepth 100000 in
theorem wordBack_walk (t l o k s : Int) (W : World) :
    Calls Try.prog 4 #[.int .i64 t, .int .i64 l, .int .i64 o, .int .i64 k, .int .i64 s] W fun e W' => e = .returned (.bool true) ∧ Below W.heap.size W W' := by
  cases h3 : hdB k s <;> cases h1 : pmB t l <;> cases h2 : pmB t o
  · exact back_fff t l o k s (Lib.hid h1) (Lib.hid h2) (Lib.hid h3) W
  · exact back_ftf t l o k s (Lib.hid h1) (Lib.hid h2) (Lib.hid h3) W
  · exact back_tff t l o k s (Lib.hid h1) (Lib.hid h2) (Lib.hid h3) W
  · by_cases e : l = o
    · exact back_ttfy t l o k s (Lib.hid h1) (Lib.hid h2) (Lib.hid h3) e W
    · exact back_ttfn t l o k s (Lib.hid h1) (Lib.hid h2) (Lib.hid h3) e W
  · exact back_fft t l o k s (Lib.hid h1) (Lib.hid h2) (Lib.hid h3) W
  · exact back_ftt t l o k s (Lib.hid h1) (Lib.hid h2) (Lib.hid h3) W
  · exact back_tft t l o k s (Lib.hid h1) (Lib.hid h2) (Lib.hid h3) W
  · by_cases e : l = o
    · exact back_ttty t l o k s (Lib.hid h1) (Lib.hid h2) (Lib.hid h3) e W
    · exact back_tttn t l o k s (Lib.hid h1) (Lib.hid h2) (Lib.hid h3) e W
end Go.Proofs.Ythniiamlfhigaaa
