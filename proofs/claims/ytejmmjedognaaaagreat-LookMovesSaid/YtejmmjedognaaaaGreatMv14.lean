/-
  CONTRACTS OF THE LAWS' OWN FUNCTIONS ON INTEGERS (beehiveref1): Of, Neg, Add.
-/
import Derived.Test.YtejmmjedognaaaaGreatMv13
namespace Go.Proofs.YtejmmjedognaaaaGreat
open Go.RowKit

end Go.Proofs.YtejmmjedognaaaaGreat
