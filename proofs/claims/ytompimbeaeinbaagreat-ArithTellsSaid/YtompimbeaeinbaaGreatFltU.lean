/-
  CONTRACT OF THE REFERENCE's CmpNum.
-/
import Derived.Test.YtompimbeaeinbaaGreatFltT
import Derived.Test.YtompimbeaeinbaaGreatFltX
namespace Go.Proofs.YtompimbeaeinbaaGreat
open Go.RowKit

set_option maxRecDepth 100000 in
theorem flr_wh (b : Nat) : Fl.flr b = if Fl.ng b then -(Fl.wh (Fl.rg b) : Int) - (if Fl.lf (Fl.rg b) then 1 else 0) else (Fl.wh (Fl.rg b) : Int) := by
  unfold Fl.flr Fl.sv Fl.sgnd Fl.wh Fl.lf
  have hU := Fl.U_pos
  have h1 := Nat.div_add_mod (Fl.val (Fl.rg b)) Fl.U
  have h2 := Nat.mod_lt (Fl.val (Fl.rg b)) hU
  generalize Fl.val (Fl.rg b) = v at *
  generalize Fl.U = U at *
  cases Fl.ng b with
  | false => simp only [Bool.false_eq_true, if_false]; rw [Int.natCast_ediv]
  | true =>
    simp only [if_true]
    generalize v / U = q at *
    generalize v % U = r at *
    have h1' : (v : Int) = (U : Int) * (q : Int) + (r : Int) := by rw [← h1]; push_cast; rfl
    by_cases hr : r = 0
    · subst hr
      rw [h1', show -((U : Int) * (q : Int) + ((0 : Nat) : Int)) = (-(q : Int)) * (U : Int) by rw [Int.neg_mul, Int.mul_comm]; simp, Int.mul_ediv_cancel _ (by omega)]
      simp
    · rw [h1', show -((U : Int) * (q : Int) + (r : Int)) = ((U : Int) - (r : Int)) + (-(q : Int) - 1) * (U : Int) by rw [Int.sub_mul, Int.neg_mul, Int.one_mul, Int.mul_comm (q : Int)]; omega, Int.add_mul_ediv_right _ _ (by omega), Int.ediv_eq_zero_of_lt (by omega) (by omega)]
      simp [hr]
set_option maxRecDepth 100000 in
theorem clean_cl' {b : Int} (h : Cl b) : cleanI b = b := by
  unfold cleanI cleanN
  split
  · rename_i hn; rw [h.n hn]; rfl
  · exact Int.toNat_of_nonneg h.u.1

end Go.Proofs.YtompimbeaeinbaaGreat
