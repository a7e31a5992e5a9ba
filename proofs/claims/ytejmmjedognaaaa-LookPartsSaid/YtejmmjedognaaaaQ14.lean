/-
  CONTRACTS OF THE LAWS' OWN FUNCTIONS ON INTEGERS (beehiveref1): Of, Neg, Add.
-/
import Derived.Test.YtejmmjedognaaaaQ13
namespace Go.Proofs.Ytejmmjedognaaaa
open Go.RowKit

end Go.Proofs.Ytejmmjedognaaaa
