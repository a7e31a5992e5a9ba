/-
  CONTRACTS OF THE REFERENCE's Add, Sub, Mul, Div.
-/
import Derived.Test.YtompimbeaeinbaaJ5
namespace Go.Proofs.Ytompimbeaeinbaa
open Go.RowKit

end Go.Proofs.Ytompimbeaeinbaa
