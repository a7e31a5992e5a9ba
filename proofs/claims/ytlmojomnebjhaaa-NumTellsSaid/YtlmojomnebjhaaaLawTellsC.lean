/-
  beehivelaw1.NumTells RETURNS TRUE: the whole.
-/
import Derived.Test.YtlmojomnebjhaaaLawTells
import Derived.Test.YtlmojomnebjhaaaLawTellsB
namespace Go.Proofs.Ytlmojomnebjhaaa
open Go.RowKit

theorem numTells_walk (w : World) (g g' : Bool) (A B : Option Addr) (n c m d : Nat) (l k : List Nat) (z : Int) (h : Raw w A n c l) (h' : Raw w B m d k) (hz1 : -9223372036854775808 ≤ z) (hz2 : z ≤ 9223372036854775807) :
    Calls Try.prog 3 #[.agg #[.bool g, .slice A n c], .agg #[.bool g', .slice B m d], .int .i64 z] w fun e w' => e = .returned (.bool true) ∧ Below w.heap.size w w' := by
  by_cases h1 : 40 < n
  · exact numTells_no0 w ⟨g, A, n, c, 0⟩ ⟨g', B, m, d, 0⟩ l k z h h' h1
  · by_cases h2 : 40 < m
    · exact numTells_no1 w ⟨g, A, n, c, 0⟩ ⟨g', B, m, d, 0⟩ l k z h h' (Nat.le_of_not_lt h1) h2
    · exact numTells_yes w ⟨g, A, n, c, 0⟩ ⟨g', B, m, d, 0⟩ l k z h h' (Nat.le_of_not_lt h1) (Nat.le_of_not_lt h2) hz1 hz2

end Go.Proofs.Ytlmojomnebjhaaa
