/-
  CONTRACT OF real.CmpNum.
-/
import Derived.Test.YtgencmjdejgkoaaFltF
import Derived.Deep.RegionHeld3
namespace Go.Proofs.Ytgencmjdejgkoaa
open Go.RowKit

namespace Fl
def C256 : Nat := 5760103923406864384
def D256 : Nat := 14983475960261640192
theorem c256_si : si C256 = ((1279 * B : Nat) : Int) := by decide
theorem d256_si : si D256 = -((1279 * B : Nat) : Int) := by decide
theorem c256_nan : nanB C256 = false := by decide
theorem d256_nan : nanB D256 = false := by decide
theorem val_top : val (1279 * B) = 2 ^ 256 * U := val_binade 1279 256 (by omega) (by rw [K_eq])
theorem flr_ge {a : Nat} (h : ((1279 * B : Nat) : Int) ≤ si a) : ((2 ^ 256 : Nat) : Int) ≤ flr a := by
  have hU := U_pos
  have hUI : (0 : Int) < (U : Int) := by omega
  have h1 : ((2 ^ 256 * U : Nat) : Int) ≤ sv a := by
    rw [← val_top]
    unfold si sgnd at h
    unfold sv sgnd
    cases hn : ng a
    · rw [hn] at h; simp only [Bool.false_eq_true, if_false] at h ⊢
      have := val_le (r := 1279 * B) (s := rg a) (by omega)
      omega
    · rw [hn] at h; simp only [if_true] at h
      have : B = 4503599627370496 := rfl
      omega
  have := Int.ediv_le_ediv hUI h1
  rw [Int.natCast_mul, Int.mul_ediv_cancel _ (by omega)] at this
  exact this
theorem flr_le {a : Nat} (h : si a ≤ -((1279 * B : Nat) : Int)) : flr a ≤ -((2 ^ 256 : Nat) : Int) := by
  have hU := U_pos
  have hUI : (0 : Int) < (U : Int) := by omega
  have h1 : sv a ≤ -((2 ^ 256 * U : Nat) : Int) := by
    rw [← val_top]
    unfold si sgnd at h
    unfold sv sgnd
    cases hn : ng a
    · rw [hn] at h; simp only [Bool.false_eq_true, if_false] at h ⊢
      have : B = 4503599627370496 := rfl
      omega
    · rw [hn] at h; simp only [if_true] at h ⊢
      have := val_le (r := 1279 * B) (s := rg a) (by omega)
      omega
  have := Int.ediv_le_ediv hUI h1
  rw [Int.natCast_mul, ← Int.neg_mul, Int.mul_ediv_cancel _ (by omega)] at this
  exact this
theorem rg_in {a : Nat} (h1 : ¬ ((1279 * B : Nat) : Int) ≤ si a) (h2 : ¬ si a ≤ -((1279 * B : Nat) : Int)) : rg a < 1279 * B := by
  unfold si sgnd at h1 h2
  cases hn : ng a
  · rw [hn] at h1; simp only [Bool.false_eq_true, if_false] at h1; omega
  · rw [hn] at h2; simp only [if_true] at h2; omega
theorem flr_in {a : Nat} (h : rg a < 1279 * B) : (flr a).natAbs < 2 ^ 256 := by
  have hK := K_eq
  have hU := U_pos
  rcases Nat.le_total 1074 (pl (rg a)) with hp | hp
  · have e1 : val (rg a) = mt (rg a) * 2 ^ (pl (rg a) - 1074) * U := by unfold val; rw [U_def, hK, split_pow _ _ _ hp]
    have e2 : (flr a).natAbs = mt (rg a) * 2 ^ (pl (rg a) - 1074) := by
      unfold flr sv
      rw [e1, sgnd_mul _ _ U, Int.mul_ediv_cancel _ (by omega), natAbs_sgnd]
    have h3 := val_lt h
    rw [val_top, e1] at h3
    rw [e2]
    exact Nat.lt_of_mul_lt_mul_right h3
  · have h1 : val (rg a) ≤ 2 * B * U := by
      unfold val
      exact Nat.mul_le_mul (Nat.le_of_lt mt_lt) (by rw [U_def]; exact Nat.pow_le_pow_right (by omega) (by omega))
    have hUI : (0 : Int) < (U : Int) := by omega
    have ha := natAbs_sgnd (ng a) (val (rg a))
    have h4 : -((2 * B * U : Nat) : Int) ≤ sv a ∧ sv a ≤ ((2 * B * U : Nat) : Int) := by unfold sv; omega
    rw [Int.natCast_mul] at h4
    have h5 : flr a ≤ ((2 * B : Nat) : Int) := by
      have := Int.ediv_le_ediv hUI h4.2
      rwa [Int.mul_ediv_cancel _ (by omega)] at this
    have h6 : -((2 * B : Nat) : Int) ≤ flr a := by
      have := Int.ediv_le_ediv hUI h4.1
      rwa [← Int.neg_mul, Int.mul_ediv_cancel _ (by omega)] at this
    have h7 : 2 * B < 2 ^ 256 := by decide
    omega
/-- The sign of a floor that is nothing's, or below. -/
theorem flr_sgn {a : Nat} : sgn (ng a) (flr a).natAbs = flr a := by
  have hU := U_pos
  have hUI : (0 : Int) < (U : Int) := by omega
  unfold sgn
  cases hn : ng a
  · have : 0 ≤ flr a := Int.ediv_nonneg (by unfold sv sgnd; rw [hn]; simp only [Bool.false_eq_true, if_false]; omega) (by omega)
    simp only [Bool.false_eq_true, if_false]; omega
  · have : flr a ≤ 0 := by
      have h1 : sv a ≤ 0 := by unfold sv sgnd; rw [hn]; simp only [if_true]; omega
      have := Int.ediv_le_ediv hUI h1
      rw [Int.zero_ediv] at this
      exact this
    simp only [if_true]; omega
end Fl

theorem flt_ge {a b : Nat} (ha : Fl.nanB a = false) (hb : Fl.nanB b = false) : (FloatKind.f64.format.order a b == some .gt || FloatKind.f64.format.order a b == some .eq) = decide (Fl.si b ≤ Fl.si a) := by
  rw [flt_gt ha hb, flt_eq ha hb, ← Bool.decide_or, decide_eq_decide]; omega
theorem flt_le {a b : Nat} (ha : Fl.nanB a = false) (hb : Fl.nanB b = false) : (FloatKind.f64.format.order a b == some .lt || FloatKind.f64.format.order a b == some .eq) = decide (Fl.si a ≤ Fl.si b) := by
  rw [flt_lt ha hb, flt_eq ha hb, ← Bool.decide_or, decide_eq_decide]; omega

/-- How an integer stands to a float. -/
noncomputable def cmpNumZ (z : Int) (b : Nat) : Int := if Fl.nanB b then -1 else if Fl.flr b < z then 1 else -1
noncomputable def cmpNumR (g : Bool) (l : List Nat) (b : Int) : Int := if mayB g l then cmpNumZ (sgn g (Lm.val l)) b.toNat else 0

theorem Lm.top_pow : Lm.top = 2 ^ 256 := by decide

set_option maxRecDepth 100000 in
set_option maxHeartbeats 2000000 in
theorem cmpNum_any (w : World) (g : Bool) (A : Option Addr) (n c : Nat) (l : List Nat) (h : Raw w A n c l) (b : Int) :
    Calls Try.prog 28 #[.agg #[.bool g, .slice A n c], .int .u64 b] w (IntPost w (cmpNumR g l b)) := by
  have c1 := call_frombits
  have hbx := Box.new w (.bool g) (.slice A n c)
  have hb0 := (Below.refl w.heap.size w).alloc (Nat.le_refl _) (.cells #[.bool g, .slice A n c] 31)
  have hR0 := h.below hb0
  generalize hW : w.alloc (.cells #[.bool g, .slice A n c] 31) = W at *
  have x0 := hbx.c0
  have x1 := hbx.c1
  cases hm : mayB g l with
  | false =>
    have fin : Hid (cmpNumR g l b = 0) := Lib.hid (by unfold cmpNumR; rw [hm]; rfl)
    go_enter Try.func28, Try.ntmps28
    go_wp2_with fail
    refine (may_b W g A n c l hR0).mono ?_
    rintro e w1 ⟨rfl, hb1⟩
    go_wp2
    go_ret
    rw [fin.out]
    exact ⟨rfl, hb0.trans (hb1.mono hb0.size)⟩
  | true =>
    have HM := Lib.hid hm
    cases hn : Fl.nanB b.toNat with
    | true =>
      have fin : Hid (cmpNumR g l b = -1) := Lib.hid (by unfold cmpNumR cmpNumZ; rw [hm, hn]; rfl)
      go_enter Try.func28, Try.ntmps28
      go_wp2_with fail
      refine (may_b W g A n c l hR0).mono ?_
      rintro e w1 ⟨rfl, hb1⟩
      go_wp2_with (go_at_call 40; refine (isNaN_any _ _).mono ?_; rintro e w' ⟨rfl, rfl⟩)
      go_ret
      rw [fin.out]
      exact ⟨rfl, hb0.trans (hb1.mono hb0.size)⟩
    | false =>
      have hz := top_of_may h.1.2.2.1 hm
      rw [Lm.top_pow] at hz
      have o1 := flt_ge hn Fl.c256_nan
      have o2 := flt_le hn Fl.d256_nan
      rw [show Fl.C256 = 5760103923406864384 from rfl] at o1
      rw [show Fl.D256 = 14983475960261640192 from rfl] at o2
      have hun : cmpNumR g l b = if Fl.flr b.toNat < sgn g (Lm.val l) then 1 else -1 := by unfold cmpNumR cmpNumZ; rw [hm, hn]; rfl
      by_cases hc : ((1279 * Fl.B : Nat) : Int) ≤ Fl.si b.toNat
      · have fin : Hid (cmpNumR g l b = -1) := Lib.hid (by
          have := Fl.flr_ge hc
          rw [hun, if_neg]
          generalize sgn g (Lm.val l) = z at *
          generalize (2 ^ 256 : Nat) = t at *
          omega)
        rw [decide_eq_true (by rw [show (5760103923406864384 : Nat) = Fl.C256 from rfl, Fl.c256_si]; exact hc)] at o1
        clear hun hc hz o2
        go_enter Try.func28, Try.ntmps28
        go_wp2_with fail
        refine (may_b W g A n c l hR0).mono ?_
        rintro e w1 ⟨rfl, hb1⟩
        go_wp2_with (go_at_call 40; refine (isNaN_any _ _).mono ?_; rintro e w' ⟨rfl, rfl⟩)
        go_ret
        rw [fin.out]
        exact ⟨rfl, hb0.trans (hb1.mono hb0.size)⟩
      · rw [decide_eq_false (by rw [show (5760103923406864384 : Nat) = Fl.C256 from rfl, Fl.c256_si]; exact hc)] at o1
        by_cases hd : Fl.si b.toNat ≤ -((1279 * Fl.B : Nat) : Int)
        · have fin : Hid (cmpNumR g l b = 1) := Lib.hid (by
            have := Fl.flr_le hd
            rw [hun, if_pos]
            generalize sgn g (Lm.val l) = z at *
            generalize (2 ^ 256 : Nat) = t at *
            omega)
          rw [decide_eq_true (by rw [show (14983475960261640192 : Nat) = Fl.D256 from rfl, Fl.d256_si]; exact hd)] at o2
          clear hun hc hz hd
          go_enter Try.func28, Try.ntmps28
          go_wp2_with fail
          refine (may_b W g A n c l hR0).mono ?_
          rintro e w1 ⟨rfl, hb1⟩
          go_wp2_with (go_at_call 40; refine (isNaN_any _ _).mono ?_; rintro e w' ⟨rfl, rfl⟩)
          go_ret
          rw [fin.out]
          exact ⟨rfl, hb0.trans (hb1.mono hb0.size)⟩
        · rw [decide_eq_false (by rw [show (14983475960261640192 : Nat) = Fl.D256 from rfl, Fl.d256_si]; exact hd)] at o2
          have hrg := Fl.rg_in hc hd
          have hfin : Fl.rg b.toNat < Fl.INF := Nat.lt_trans hrg (by decide)
          have hrep := Fl.flr_rep (Nat.le_of_lt hrg)
          have htop := Fl.flr_in hrg
          rw [← Lm.top_pow] at htop hz
          have hsg := Lib.hid (Fl.flr_sgn (a := b.toNat))
          have fin := Lib.hid hun
          clear hun hc hd hrg
          have hcmp : Hid (decide (0 < cmpZ (sgn g (Lm.val l)) (Fl.flr b.toNat)) = decide (Fl.flr b.toNat < sgn g (Lm.val l))) := Lib.hid (by
            unfold cmpZ
            rw [decide_eq_decide]
            split
            · omega
            · split <;> omega)
          by_cases hlt : Fl.flr b.toNat < sgn g (Lm.val l)
          all_goals
            first
            | rw [decide_eq_true hlt] at hcmp
            | rw [decide_eq_false hlt] at hcmp
            first
            | rw [if_pos hlt] at fin
            | rw [if_neg hlt] at fin
            clear hlt
            go_enter Try.func28, Try.ntmps28
            go_wp2_with fail
            refine (may_b W g A n c l hR0).mono ?_
            rintro e w1 ⟨rfl, hb1⟩
            go_wp2_with (go_at_call 40; refine (isNaN_any _ _).mono ?_; rintro e w' ⟨rfl, rfl⟩)
            have q0 : Box w1.drew w.heap.size (.bool g) (.slice A n c) := hbx.below' hb1.drew
            have r0 : Nm w1.drew g A n c (sgn g (Lm.val l)) := nm_of_raw (hR0.below hb1.drew) HM.out
            have y0 := (hbx.below' hb1).c0
            have y1 := (hbx.below' hb1).c1
            clear x0 x1 o1 o2 c1 hn hm hW
            go_region_held3 (fun w' => w'.cell? ⟨w.heap.size, 0, none⟩ = some (.bool g) ∧ w'.cell? ⟨w.heap.size, 1, none⟩ = some (.slice A n c))
              (first | exact ⟨y0, y1⟩ | exact ⟨q0.c0, q0.c1⟩ | exact ⟨q1.c0, q1.c1⟩ | exact ⟨q2.c0, q2.c1⟩)
              (first
                | (go_at_call 50; refine (floor_any _ _ hfin).mono ?_; rintro e w' ⟨rfl, rfl⟩)
                | (go_at_call 49; refine (whole_any _ _ _ hrep htop).mono ?_; rintro e v1 ⟨_, rfl, ⟨s1, A1, n1, c1, rfl, hs1, ho1⟩, hv1⟩; have q1 := q0.below' hv1; have r1 := r0.below hv1)
                | (go_at_call 48; refine (cmp_z _ g s1 A A1 n c n1 c1 _ _ (by exact r1) (by exact Nm.of_own hs1 ho1) hz (by rw [natAbs_sgn]; exact htop)).mono ?_; rintro e v2 ⟨rfl, hv2⟩; have q2 := q1.below' hv2))
            rw [hsg.out, hcmp.out]
            have e0 := (hb0.trans (hb1.mono hb0.size)).drew
            have e1 := e0.trans (hv1.mono e0.size)
            have e2 := e1.trans (hv2.mono e1.size)
            go_wp2
            go_ret
            rw [fin.out]
            exact ⟨rfl, e2⟩
end Go.Proofs.Ytgencmjdejgkoaa
