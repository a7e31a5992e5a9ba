/-
  THE LAW RealNums.
-/
import Derived.Test.YtompimbeaeinbaaGreatFltU
namespace Go.Proofs.YtompimbeaeinbaaGreat
open Go.RowKit

set_option maxRecDepth 100000 in
theorem cl_ofR (g : Bool) (l : List Nat) : Cl ((ofR g l : Nat) : Int) := by
  have hw : ∀ h : Bool, Cl ((Ieee.double.word h (Fl.ofN (Lm.val l)) : Nat) : Int) := fun h => by
    refine ⟨U64.mk (word_lt2 h _), fun hn => ?_⟩
    rw [Int.toNat_natCast] at hn
    unfold Fl.nanB at hn
    rw [Fl.word_rg (Fl.ofN_lt _), decide_eq_true_iff] at hn
    have := Fl.ofN_le (Lm.val l)
    omega
  unfold ofR
  split
  · exact hw g
  · exact ⟨by unfold U64; decide, fun hn => absurd hn (by decide)⟩

end Go.Proofs.YtompimbeaeinbaaGreat
