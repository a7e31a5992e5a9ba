import Derived.Test.YtgencmjdejgkoaaLeafB
namespace Go.Proofs.Ytgencmjdejgkoaa
open Go.RowKit

/-- Two numbers as they stand. -/
def sameB (g g' : Bool) (l k : List Nat) : Bool := (g == g') && decide (l = k)

/-- Limbs with a sign; 0 has none. -/
def signedV (g : Bool) (A : Option Addr) (n c : Nat) : Value := if n = 0 then .agg #[.bool false, .slice none 0 0] else .agg #[.bool g, .slice A n c]

end Go.Proofs.Ytgencmjdejgkoaa
