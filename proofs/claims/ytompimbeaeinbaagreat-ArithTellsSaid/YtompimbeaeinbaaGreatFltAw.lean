/-
  WHAT EVERY PROGRAM ANSWERS THAT IS ONE: awake of beehivelaw2.
-/
import Derived.Test.YtompimbeaeinbaaGreatFltL
import Derived.Test.YtompimbeaeinbaaGreatFltR
import Derived.Test.YtompimbeaeinbaaGreatJ3
import Derived.Test.YtompimbeaeinbaaGreatLaw
namespace Go.Proofs.YtompimbeaeinbaaGreat
open Go.RowKit

set_option maxRecDepth 100000 in
theorem u64_wf {a : Int} (h : (Lit.int .u64 a).wf = true) : U64 a := by
  simp [Lit.wf, IntKind.min, IntKind.max, IntKind.signed, IntKind.bits] at h
  unfold U64
  omega
set_option maxRecDepth 100000 in
theorem aw_cmp : cmpI 9223372036854775808 0 = -1 := by decide
set_option maxRecDepth 100000 in
theorem aw_div : opI .quo 4607182418800017408 9223372036854775808 = 18442240474082181120 := by decide +kernel
set_option maxRecDepth 100000 in
theorem aw_sub : opI .sub 9218868437227405312 9218868437227405312 = 9221120237041090561 := by decide +kernel
set_option maxRecDepth 100000 in
theorem aw_may : (cleanI 9218868437227405321 == 9218868437227405321) = false := by decide
set_option maxRecDepth 100000 in
theorem aw_cmpNum : cmpNumR false [] 9223372036854775808 = -1 := by
  unfold cmpNumR cmpNumZ
  have h1 : mayB false [] = true := by decide
  have h2 : Fl.nanB (9223372036854775808 : Int).toNat = false := by decide
  have h3 : Fl.sv (9223372036854775808 : Int).toNat = 0 := by decide
  rw [h1, h2]
  unfold Fl.flr
  rw [h3, Int.zero_ediv]
  rfl
set_option maxRecDepth 100000 in
theorem ofN_one : Fl.ofN 1 = 4607182418800017408 := by
  rw [Fl.ofN_def]
  have h1 : Fl.val (1023 * Fl.B) = 2 ^ 0 * Fl.U := Fl.val_binade 1023 0 (by omega) (by rw [Fl.K_eq])
  rw [Nat.pow_zero] at h1
  rw [← h1, Fl.R_val (by decide)]
  rfl
set_option maxRecDepth 100000 in
theorem aw_of (z : Int) (hz : z = 1) (g : Bool) (hg : g = decide (z < 0)) : ofR g (Lm.digits z.natAbs) = 4607182418800017408 := by
  subst hz
  have h1 : Lm.digits (1 : Int).natAbs = [1] := by
    show Lm.digits 1 = [1]
    rw [Lm.digits_pos (by decide)]
    show 1 % 4294967296 :: Lm.digits (1 / 4294967296) = [1]
    rw [show 1 / 4294967296 = 0 from rfl, Lm.digits_zero]
  rw [h1, hg]
  unfold ofR
  rw [show mayB (decide ((1 : Int) < 0)) [1] = true from by decide, if_pos rfl, show decide ((1 : Int) < 0) = false from by decide, Fl.word_false, show Lm.val [1] = 1 from by decide, ofN_one]

end Go.Proofs.YtompimbeaeinbaaGreat
