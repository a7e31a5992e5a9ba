/-
  A FLOAT THAT MAY BE.
-/
import Derived.Test.YtompimbeaeinbaaGreatJ5
namespace Go.Proofs.YtompimbeaeinbaaGreat
open Go.RowKit

/-- A float that may be. -/
structure Cl (a : Int) : Prop where
  u : U64 a
  n : Fl.nanB a.toNat = true → a = 9221120237041090561
end Go.Proofs.YtompimbeaeinbaaGreat
