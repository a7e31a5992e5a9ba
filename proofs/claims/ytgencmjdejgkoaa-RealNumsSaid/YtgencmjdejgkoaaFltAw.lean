/-
  WHAT EVERY PROGRAM ANSWERS THAT IS ONE: awake of beehivelaw2.
-/
import Derived.Test.YtgencmjdejgkoaaFltL
import Derived.Test.YtgencmjdejgkoaaFltR
import Derived.Test.YtgencmjdejgkoaaRefF
import Derived.Test.YtgencmjdejgkoaaLaw
namespace Go.Proofs.Ytgencmjdejgkoaa
open Go.RowKit

theorem u64_wf {a : Int} (h : (Lit.int .u64 a).wf = true) : U64 a := by
  simp [Lit.wf, IntKind.min, IntKind.max, IntKind.signed, IntKind.bits] at h
  unfold U64
  omega
theorem aw_cmp : cmpI 9223372036854775808 0 = -1 := by decide
theorem aw_div : opI .quo 4607182418800017408 9223372036854775808 = 18442240474082181120 := by decide +kernel
theorem aw_sub : opI .sub 9218868437227405312 9218868437227405312 = 9221120237041090561 := by decide +kernel
theorem aw_may : (cleanI 9218868437227405321 == 9218868437227405321) = false := by decide
theorem aw_cmpNum : cmpNumR false [] 9223372036854775808 = -1 := by
  unfold cmpNumR cmpNumZ
  have h1 : mayB false [] = true := by decide
  have h2 : Fl.nanB (9223372036854775808 : Int).toNat = false := by decide
  have h3 : Fl.sv (9223372036854775808 : Int).toNat = 0 := by decide
  rw [h1, h2]
  unfold Fl.flr
  rw [h3, Int.zero_ediv]
  rfl
theorem ofN_one : Fl.ofN 1 = 4607182418800017408 := by
  rw [Fl.ofN_def]
  have h1 : Fl.val (1023 * Fl.B) = 2 ^ 0 * Fl.U := Fl.val_binade 1023 0 (by omega) (by rw [Fl.K_eq])
  rw [Nat.pow_zero] at h1
  rw [← h1, Fl.R_val (by decide)]
  rfl
theorem aw_of (z : Int) (hz : z = 1) (g : Bool) (hg : g = decide (z < 0)) : ofR g (Lm.digits z.natAbs) = 4607182418800017408 := by
  subst hz
  have h1 : Lm.digits (1 : Int).natAbs = [1] := by
    show Lm.digits 1 = [1]
    rw [Lm.digits_pos (by decide)]
    show 1 % 4294967296 :: Lm.digits (1 / 4294967296) = [1]
    rw [show 1 / 4294967296 = 0 from rfl, Lm.digits_zero]
  rw [h1, hg]
  unfold ofR
  rw [show mayB (decide ((1 : Int) < 0)) [1] = true from by decide, if_pos rfl, show decide ((1 : Int) < 0) = false from by decide, Fl.word_false, show Lm.val [1] = 1 from by decide, ofN_one]

set_option maxRecDepth 100000 in
set_option maxHeartbeats 2000000 in
theorem awake_flt (w : World) : Calls Try.prog 24 #[] w fun e w' => e = .returned (.bool true) ∧ Below w.heap.size w w' := by
  have u0 : U64 0 := by unfold U64; decide
  have u1 : U64 9223372036854775808 := by unfold U64; decide
  have u2 : U64 9218868437227405321 := by unfold U64; decide
  go_enter Try.func24, Try.ntmps24
  go_wp2_with fail
  refine (fCmp_any _ _ _ u1 u0).mono ?_
  rw [aw_cmp]
  rintro e w' ⟨rfl, rfl⟩
  go_wp2_with fail
  refine (cmpNum_any w false none 0 0 [] ⟨Lim.nil w none 0, Nat.zero_le _⟩ _).mono ?_
  rw [aw_cmpNum]
  rintro e w1 ⟨rfl, hb1⟩
  go_wp2_with fail
  refine (fDiv_any _ _ _).mono ?_
  rw [aw_div]
  rintro e w2 ⟨rfl, hb2⟩
  go_wp2_with fail
  refine (fSub_any _ _ _).mono ?_
  rw [aw_sub]
  rintro e w3 ⟨rfl, hb3⟩
  go_wp2_with fail
  refine (refOf_any w3 1 (by decide) (by decide)).mono ?_
  rintro e w4 ⟨_, rfl, ⟨s4, A4, n4, c4, rfl, hs4, ho4⟩, hb4⟩
  go_wp2_with fail
  refine (of_flt w4 s4 A4 n4 c4 _ (Nm.of_own hs4 ho4).1).mono ?_
  rw [aw_of 1 rfl s4 hs4.out]
  rintro e w5 ⟨rfl, hb5⟩
  go_wp2_with fail
  refine (may_flt _ _ u2).mono ?_
  rw [aw_may]
  rintro e w6 ⟨rfl, rfl⟩
  go_wp2
  go_ret
  have e1 := hb1
  have e2 := e1.trans (hb2.mono e1.size)
  have e3 := e2.trans (hb3.mono e2.size)
  have e4 := e3.trans (hb4.mono e3.size)
  have e5 := e4.trans (hb5.mono e4.size)
  exact ⟨rfl, e5⟩
end Go.Proofs.Ytgencmjdejgkoaa
