/-
  A FLOAT THAT MAY BE.
  CONTRACT OF THE REFERENCE's CmpNum.
-/
import Derived.Test.YtmcfokeibecopaaK5
import Derived.Test.YtmcfokeibecopaaK11
namespace Go.Proofs.Ytmcfokeibecopaa
open Go.RowKit

/-- A float that may be. -/
structure Cl (a : Int) : Prop where
  u : U64 a
  n : Fl.nanB a.toNat = true → a = 9221120237041090561
end Go.Proofs.Ytmcfokeibecopaa

namespace Go.Proofs.Ytmcfokeibecopaa
open Go.RowKit

set_option maxRecDepth 100000 in
theorem flr_wh (b : Nat) : Fl.flr b = if Fl.ng b then -(Fl.wh (Fl.rg b) : Int) - (if Fl.lf (Fl.rg b) then 1 else 0) else (Fl.wh (Fl.rg b) : Int) := by
  unfold Fl.flr Fl.sv Fl.sgnd Fl.wh Fl.lf
  have hU := Fl.U_pos
  have h1 := Nat.div_add_mod (Fl.val (Fl.rg b)) Fl.U
  have h2 := Nat.mod_lt (Fl.val (Fl.rg b)) hU
  generalize Fl.val (Fl.rg b) = v at *
  generalize Fl.U = U at *
  cases Fl.ng b with
  | false => simp only [Bool.false_eq_true, if_false]; rw [Int.natCast_ediv]
  | true =>
    simp only [if_true]
    generalize v / U = q at *
    generalize v % U = r at *
    have h1' : (v : Int) = (U : Int) * (q : Int) + (r : Int) := by rw [← h1]; push_cast; rfl
    by_cases hr : r = 0
    · subst hr
      rw [h1', show -((U : Int) * (q : Int) + ((0 : Nat) : Int)) = (-(q : Int)) * (U : Int) by rw [Int.neg_mul, Int.mul_comm]; simp, Int.mul_ediv_cancel _ (by omega)]
      simp
    · rw [h1', show -((U : Int) * (q : Int) + (r : Int)) = ((U : Int) - (r : Int)) + (-(q : Int) - 1) * (U : Int) by rw [Int.sub_mul, Int.neg_mul, Int.one_mul, Int.mul_comm (q : Int)]; omega, Int.add_mul_ediv_right _ _ (by omega), Int.ediv_eq_zero_of_lt (by omega) (by omega)]
      simp [hr]
set_option maxRecDepth 100000 in
theorem refCmp_z (w : World) (s s' : Bool) (A B : Option Addr) (n c m d : Nat) (z z' : Int) (h : Nm w s A n c z) (h' : Nm w s' B m d z') (ht : z.natAbs < Lm.top) (ht' : z'.natAbs < Lm.top) :
    Calls Try.prog 64 #[.agg #[.bool s, .slice A n c], .agg #[.bool s', .slice B m d]] w (IntPost w (cmpZ z z')) := by
  have := refCmp_yes w s s' A B n c m d _ _ h.1 h'.1 (h.may ht) (h'.may ht')
  rwa [h.eqZ, h'.eqZ] at this
set_option maxRecDepth 100000 in
theorem clean_cl' {b : Int} (h : Cl b) : cleanI b = b := by
  unfold cleanI cleanN
  split
  · rename_i hn; rw [h.n hn]; rfl
  · exact Int.toNat_of_nonneg h.u.1

set_option maxRecDepth 100000 in
set_option maxRecDepth 100000 in
set_option maxHeartbeats 2000000 in
theorem refCmpNum_any (w : World) (g : Bool) (A : Option Addr) (n c : Nat) (l : List Nat) (h : Raw w A n c l) (b : Int) (hb : Cl b) :
    Calls Try.prog 65 #[.agg #[.bool g, .slice A n c], .int .u64 b] w (IntPost w (cmpNumR g l b)) := by
  have hbx := Box.new w (.bool g) (.slice A n c)
  have hb0 := (Below.refl w.heap.size w).alloc (Nat.le_refl _) (.cells #[.bool g, .slice A n c] 24)
  have hR0 := h.below hb0
  have hcl := fun w => refClean_any w b hb.u
  rw [clean_cl' hb] at hcl
  have hsg : (b / 9223372036854775808 == 1) = Fl.ng b.toNat := by
    cases hg : Fl.ng b.toNat with
    | false => exact (key_pos hb.u hg).1
    | true => exact (key_neg hb.u hg).1
  have bE' := bE hb.u
  have hnan := fun w => refNan_any w b hb.u
  have hu := hb.u
  generalize hW : w.alloc (.cells #[.bool g, .slice A n c] 24) = W at *
  have x0 := hbx.c0
  have x1 := hbx.c1
  cases hm : mayB g l with
  | false =>
    have fin : Hid (cmpNumR g l b = 0) := Lib.hid (by unfold cmpNumR; rw [hm]; rfl)
    go_enter Try.func65, Try.ntmps65
    go_wp2_with fail
    refine (hcl _).mono ?_
    rintro e w' ⟨rfl, rfl⟩
    go_wp2_with fail
    refine (refMay_b W g A n c l hR0).mono ?_
    rintro e w1 ⟨rfl, hb1⟩
    go_wp2
    go_ret
    rw [fin.out]
    exact ⟨rfl, hb0.trans (hb1.mono hb0.size)⟩
  | true =>
    have HM := Lib.hid hm
    cases hn : Fl.nanB b.toNat with
    | true =>
      have fin : Hid (cmpNumR g l b = -1) := Lib.hid (by unfold cmpNumR cmpNumZ; rw [hm, hn]; rfl)
      rw [hn] at hnan
      go_enter Try.func65, Try.ntmps65
      go_wp2_with fail
      refine (hcl _).mono ?_
      rintro e w' ⟨rfl, rfl⟩
      go_wp2_with fail
      refine (refMay_b W g A n c l hR0).mono ?_
      rintro e w1 ⟨rfl, hb1⟩
      go_wp2_with fail
      refine (hnan _).mono ?_
      rintro e w' ⟨rfl, rfl⟩
      go_wp2
      go_ret
      rw [fin.out]
      exact ⟨rfl, hb0.trans (hb1.mono hb0.size)⟩
    | false =>
      rw [hn] at hnan
      have hz := top_of_may h.1.2.2.1 hm
      have hun : cmpNumR g l b = if Fl.flr b.toNat < sgn g (Lm.val l) then 1 else -1 := by unfold cmpNumR cmpNumZ; rw [hm, hn]; rfl
      have hB : Fl.B = 4503599627370496 := rfl
      have hsi : Fl.si b.toNat = Fl.sgnd (Fl.ng b.toNat) (Fl.rg b.toNat) := rfl
      by_cases hc : 1323 ≤ Fl.rg b.toNat / 4503599627370496
      · have hgt : (1323 : Int) ≤ ((Fl.rg b.toNat / 4503599627370496 : Nat) : Int) := by omega
        rw [Lm.top_pow] at hz
        cases hg : Fl.ng b.toNat with
        | false =>
          have fin : Hid (cmpNumR g l b = -1) := Lib.hid (by
            have := Fl.flr_ge (a := b.toNat) (by rw [hsi, hg]; unfold Fl.sgnd; rw [if_neg (by decide)]; omega)
            rw [hun, if_neg]
            generalize sgn g (Lm.val l) = z at *
            generalize (2 ^ 256 : Nat) = t at *
            omega)
          rw [hg] at hsg
          clear hun hc hz hsi hn hg hB
          generalize Fl.rg b.toNat / 4503599627370496 = E at *
          go_enter Try.func65, Try.ntmps65
          go_wp2_with fail
          refine (hcl _).mono ?_
          rintro e w' ⟨rfl, rfl⟩
          go_wp2_with fail
          refine (refMay_b W g A n c l hR0).mono ?_
          rintro e w1 ⟨rfl, hb1⟩
          go_wp2_with fail
          refine (hnan _).mono ?_
          rintro e w' ⟨rfl, rfl⟩
          go_wp2
          go_ret
          rw [fin.out]
          exact ⟨rfl, hb0.trans (hb1.mono hb0.size)⟩
        | true =>
          have fin : Hid (cmpNumR g l b = 1) := Lib.hid (by
            have := Fl.flr_le (a := b.toNat) (by rw [hsi, hg]; unfold Fl.sgnd; rw [if_pos rfl]; omega)
            rw [hun, if_pos]
            generalize sgn g (Lm.val l) = z at *
            generalize (2 ^ 256 : Nat) = t at *
            omega)
          rw [hg] at hsg
          clear hun hc hz hsi hn hg hB
          generalize Fl.rg b.toNat / 4503599627370496 = E at *
          go_enter Try.func65, Try.ntmps65
          go_wp2_with fail
          refine (hcl _).mono ?_
          rintro e w' ⟨rfl, rfl⟩
          go_wp2_with fail
          refine (refMay_b W g A n c l hR0).mono ?_
          rintro e w1 ⟨rfl, hb1⟩
          go_wp2_with fail
          refine (hnan _).mono ?_
          rintro e w' ⟨rfl, rfl⟩
          go_wp2
          go_ret
          rw [fin.out]
          exact ⟨rfl, hb0.trans (hb1.mono hb0.size)⟩
      · have hlt : ((Fl.rg b.toNat / 4503599627370496 : Nat) : Int) < 1323 := by omega
        have hwh := fun w => refWhole_any w b hu (by omega)
        have hfl := flr_wh b.toNat
        rw [hfl] at hun
        rw [hun]
        clear hun hsi hfl hB
        generalize Fl.rg b.toNat / 4503599627370496 = E at *
        generalize Fl.wh (Fl.rg b.toNat) = K at *
        generalize Fl.lf (Fl.rg b.toNat) = left at *
        generalize hG : Fl.ng b.toNat = gb at *
        have hnx : ∀ w', Below W.heap.size W w' → Nm w' g A n c (sgn g (Lm.val l)) := fun w' hw => nm_of_raw (hR0.below hw) HM.out
        generalize sgn g (Lm.val l) = z at *
        clear hc hn hG
        generalize hRd : (if (if gb = true then -(K : Int) - (if left = true then 1 else 0) else (K : Int)) < z then (1 : Int) else -1) = R at *
        have HR := Lib.hid hRd
        clear hRd
        go_enter Try.func65, Try.ntmps65
        go_wp2_with fail
        refine (hcl _).mono ?_
        rintro e w' ⟨rfl, rfl⟩
        go_wp2_with fail
        refine (refMay_b W g A n c l hR0).mono ?_
        rintro e w1 ⟨rfl, hb1⟩
        go_wp2_with fail
        refine (hnan _).mono ?_
        rintro e w' ⟨rfl, rfl⟩
        go_wp2_with fail
        refine (hwh _).mono ?_
        rintro e w2 ⟨_, rfl, ⟨s1, A1, n1, c1, rfl, hs1, ho1⟩, hb2⟩
        have e1 := hb0.trans (hb1.mono hb0.size)
        have e2 := e1.trans (hb2.mono e1.size)
        have hNx := hnx w2 (hb1.trans (hb2.mono hb1.size))
        have k2 := (hbx.below' hb1).below' hb2
        have hwb := Box.new w2 (.bool s1) (.slice A1 n1 c1)
        have hn1 := ho1.2.1
        have hlen := Lib.hid (Lm.top_iff K)
        rw [natAbs_sgn] at hn1
        clear hnx hbx hb0 hR0 x0 x1
        have hNx' := hNx.below ((Below.refl _ w2).alloc (Nat.le_refl _) (.cells #[.bool s1, .slice A1 n1 c1] 24))
        have hNw' := (Nm.of_own hs1 ho1).below ((Below.refl _ w2).alloc (Nat.le_refl _) (.cells #[.bool s1, .slice A1 n1 c1] 24))
        have k2' := k2.alloc (.cells #[.bool s1, .slice A1 n1 c1] 24)
        have e3 := e2.alloc e2.size (.cells #[.bool s1, .slice A1 n1 c1] 24)
        obtain ⟨P, hP⟩ : ∃ P, P = w2.heap.size := ⟨_, rfl⟩
        rw [← hP] at hwb
        have z0 := k2'.c0
        have z1 := k2'.c1
        have z2 := hwb.c0
        have z3 := hwb.c1
        by_cases h8 : n1 ≤ 8
        · have htop : (sgn gb K).natAbs < Lm.top := by
            rw [natAbs_sgn]; exact hlen.out.1 (by rw [hn1]; exact h8)
          have hcc := refCmp_z _ g s1 A A1 n c n1 c1 z (sgn gb K) hNx' hNw' hz htop
          have h3 : (cmpZ z (sgn gb K) = -1 ∧ R = -1) ∨ (cmpZ z (sgn gb K) = 1 ∧ R = 1) ∨ (cmpZ z (sgn gb K) = 0 ∧ z = sgn gb K) := by
            rw [← HR.out]
            unfold cmpZ sgn
            generalize (K : Int) = k at *
            have hl : (0 : Int) ≤ (if left = true then 1 else 0) ∧ (if left = true then (1 : Int) else 0) ≤ 1 := by split <;> omega
            generalize (if left = true then (1 : Int) else 0) = lv at *
            cases gb
            · simp only [Bool.false_eq_true, if_false]
              rcases Int.lt_trichotomy z k with h5 | h5 | h5
              · left; rw [if_pos h5, if_neg (by omega)]; exact ⟨rfl, rfl⟩
              · right; right; rw [if_neg (by omega), if_neg (by omega)]; exact ⟨rfl, h5⟩
              · right; left; rw [if_neg (by omega), if_pos h5, if_pos (by omega)]; exact ⟨rfl, rfl⟩
            · simp only [if_true]
              rcases Int.lt_trichotomy z (-k) with h5 | h5 | h5
              · left; rw [if_pos h5, if_neg (by omega)]; exact ⟨rfl, rfl⟩
              · right; right; rw [if_neg (by omega), if_neg (by omega)]; exact ⟨rfl, h5⟩
              · right; left; rw [if_neg (by omega), if_pos h5, if_pos (by omega)]; exact ⟨rfl, rfl⟩
          rcases h3 with ⟨hcz, hRv⟩ | ⟨hcz, hRv⟩ | ⟨hcz, hzz⟩
          · rw [hcz] at hcc
            have HV := Lib.hid hRv
            clear hRv hcz
            go_wp2_with fail
            refine hcc.mono ?_
            rintro e w4 ⟨rfl, hb4⟩
            go_wp2
            go_ret
            rw [HV.out]
            exact ⟨rfl, e3.trans (hb4.mono e3.size)⟩
          · rw [hcz] at hcc
            have HV := Lib.hid hRv
            clear hRv hcz
            go_wp2_with fail
            refine hcc.mono ?_
            rintro e w4 ⟨rfl, hb4⟩
            go_wp2
            go_ret
            rw [HV.out]
            exact ⟨rfl, e3.trans (hb4.mono e3.size)⟩
          · rw [hcz] at hcc
            have HZ := Lib.hid hzz
            clear hcz hzz
            have HV : Hid (R = if gb && left then 1 else -1) := Lib.hid (by
              rw [← HR.out, HZ.out]
              unfold sgn
              cases gb <;> cases left <;> simp <;> omega)
            clear HR HZ
            cases gb <;> cases left
            all_goals
              go_wp2_with fail
              refine hcc.mono ?_
              rintro e w4 ⟨rfl, hb4⟩
              go_wp2
              go_ret
              rw [HV.out]
              exact ⟨rfl, e3.trans (hb4.mono e3.size)⟩
        · have hK8 : Hid (Lm.top ≤ K) := Lib.hid (by
            rcases Nat.lt_or_ge K Lm.top with h9 | h9
            · have := hlen.out.2 h9
              rw [hn1] at this
              omega
            · exact h9)
          have h8' : (8 : Int) < (n1 : Int) := by omega
          cases gb
          · have HV : Hid (R = -1) := Lib.hid (by
              rw [← HR.out]
              have := hK8.out
              simp only [Bool.false_eq_true, if_false]
              rw [if_neg (by omega)])
            go_wp2
            go_ret
            rw [HV.out]
            exact ⟨rfl, e3⟩
          · have HV : Hid (R = 1) := Lib.hid (by
              rw [← HR.out]
              have := hK8.out
              simp only [if_true]
              rw [if_pos (by split <;> omega)])
            go_wp2
            go_ret
            rw [HV.out]
            exact ⟨rfl, e3⟩
end Go.Proofs.Ytmcfokeibecopaa
