/-
  THE REFERENCE's Reader: Term, for any bytes.
-/
import Derived.Test.YtomohdfcggghoaaJ18
import Derived.Test.YtomohdfcggghoaaJ19
namespace Go.Proofs.Ytomohdfcggghoaa
open Go.RowKit

set_option maxRecDepth 100000 in
theorem rterm_zero (g : Nat) (A : Option Addr) (n c : Nat) (B : List Nat) (w : World) (z : Int) (h : Rs w g A n c B z false ((0 : Nat) : Int)) :
    Calls Try.prog 28 #[.pointer (some ⟨g, 0, none⟩)] w (RtP w g A n c B none) := by
  have := rterm_step 0 g A n c B w z 0 (fun h => absurd h (by omega)) (by omega) (by omega) h
  have e : Wr.decZ B (0 + 1) 0 z = none := by
    unfold Wr.decZ
    by_cases hz : z < 0
    · rw [if_pos hz]
    · rw [if_neg hz, Wr.dec, if_pos (.inl rfl)]
  rw [e] at this
  exact this
set_option maxRecDepth 100000 in
theorem rterm_nat : ∀ (f : Nat), f ≤ 1000 → ∀ (g : Nat) (A : Option Addr) (n c : Nat) (B : List Nat) (w : World) (z : Int) (p : Nat), p ≤ f + 1 → Rs w g A n c B z false (p : Int) →
    Calls Try.prog 28 #[.pointer (some ⟨g, 0, none⟩)] w (RtP w g A n c B (Wr.decZ B (f + 1) p z))
  | 0, _, g, A, n, c, B, w, z, p, hp, h => rterm_step 0 g A n c B w z p (fun _ w a p hp _ h => by
      have e : p = 0 := by omega
      subst e
      exact rterm_zero g A n c B w (a : Int) h) (by omega) hp h
  | f + 1, hf, g, A, n, c, B, w, z, p, hp, h => rterm_step (f + 1) g A n c B w z p (fun _ w a p hp _ h => by
      have := rterm_nat f (by omega) g A n c B w (a : Int) p hp h
      unfold Wr.decZ at this
      rw [if_neg (by omega), Int.toNat_natCast] at this
      exact this) hf hp h

set_option maxRecDepth 100000 in
theorem term_ok : TermOk := fun g A n c B w z h => rterm_nat 299 (by omega) g A n c B w z 300 (by omega) h
set_option maxRecDepth 100000 in
theorem wireReads_walk (w : World) (A : Option Addr) (n c : Nat) (l : List Nat) (h : By w A n c l) (hc : c ≤ maxLen) (z : Int) :
    Calls Try.prog 4 #[.slice A n c, .int .i64 z] w fun e w' => e = .returned (.bool true) ∧ Below w.heap.size w w' := wireReads_of term_ok w A n c l h hc z
end Go.Proofs.Ytomohdfcggghoaa
