/-
  beehivelaw1.NumTells RETURNS TRUE WHERE IT PASSES ITS NUMBERS OVER: its walks.
-/
import Derived.Test.YtlmojomnebjhaaaRaw
namespace Go.Proofs.Ytlmojomnebjhaaa
open Go.RowKit

set_option maxRecDepth 100000 in
set_option maxHeartbeats 2000000 in
theorem numTells_no0 (w : World) (ra rb : NumR) (la lb : List Nat) (z : Int) (_r0 : Raw w ra.A ra.n ra.c la) (_r1 : Raw w rb.A rb.n rb.c lb) (h0 : 40 < ra.n) :
    Calls Try.prog 3 #[.agg #[.bool ra.s, .slice ra.A ra.n ra.c], .agg #[.bool rb.s, .slice rb.A rb.n rb.c], .int .i64 z] w fun e w' => e = .returned (.bool true) ∧ Below w.heap.size w w' := by
  have K0 : Env w [] [] w := ⟨Below.refl _ _, fun r hr => by simp at hr, fun r hr => by simp at hr, fun x hx => by simp at hx⟩
  have K := ((K0.new ra).new rb)
  simp only [World.size_alloc] at K
  clear K0
  have f0 : decide (40 < ra.n) = true := by rw [decide_eq_true_iff]; omega
  go_enter Try.func3, Try.ntmps3
  go_wp2_with fail
  obtain ⟨p, hp⟩ : ∃ p, p = w.heap.size := ⟨_, rfl⟩
  obtain ⟨q, hq⟩ : ∃ q, q = w.heap.size + 1 := ⟨_, rfl⟩
  generalize ((w.alloc (.cells #[.bool ra.s, .slice ra.A ra.n ra.c] 24)).alloc (.cells #[.bool rb.s, .slice rb.A rb.n rb.c] 24)) = W at *
  rw [← hq, ← hp] at K ⊢
  clear hp hq
  have c0a := K.c0 (g := q) (r := rb) (by simp)
  have c0b := K.c1 (g := q) (r := rb) (by simp)
  have c1a := K.c0 (g := p) (r := ra) (by simp)
  have c1b := K.c1 (g := p) (r := ra) (by simp)
  refine (great_any _ ra.s ra.A ra.n ra.c).mono ?_
  rintro e wn ⟨rfl, hbn⟩
  replace K := K.below hbn
  clear c0a c0b c1a c1b
  have c0a := K.c0 (g := q) (r := rb) (by simp)
  have c0b := K.c1 (g := q) (r := rb) (by simp)
  have c1a := K.c0 (g := p) (r := ra) (by simp)
  have c1b := K.c1 (g := p) (r := ra) (by simp)
  go_wp2_with fail
  refine (awake_any _).mono ?_
  rintro e wn ⟨rfl, hbn⟩
  go_wp2
  go_ret
  exact ⟨rfl, (K.below hbn).bl⟩

set_option maxRecDepth 100000 in
set_option maxHeartbeats 2000000 in
theorem numTells_no1 (w : World) (ra rb : NumR) (la lb : List Nat) (z : Int) (_r0 : Raw w ra.A ra.n ra.c la) (_r1 : Raw w rb.A rb.n rb.c lb) (h0 : ra.n ≤ 40) (h1 : 40 < rb.n) :
    Calls Try.prog 3 #[.agg #[.bool ra.s, .slice ra.A ra.n ra.c], .agg #[.bool rb.s, .slice rb.A rb.n rb.c], .int .i64 z] w fun e w' => e = .returned (.bool true) ∧ Below w.heap.size w w' := by
  have K0 : Env w [] [] w := ⟨Below.refl _ _, fun r hr => by simp at hr, fun r hr => by simp at hr, fun x hx => by simp at hx⟩
  have K := ((K0.new ra).new rb)
  simp only [World.size_alloc] at K
  clear K0
  have f0 : decide (40 < ra.n) = false := by rw [decide_eq_false_iff_not]; omega
  have f1 : decide (40 < rb.n) = true := by rw [decide_eq_true_iff]; omega
  go_enter Try.func3, Try.ntmps3
  go_wp2_with fail
  obtain ⟨p, hp⟩ : ∃ p, p = w.heap.size := ⟨_, rfl⟩
  obtain ⟨q, hq⟩ : ∃ q, q = w.heap.size + 1 := ⟨_, rfl⟩
  generalize ((w.alloc (.cells #[.bool ra.s, .slice ra.A ra.n ra.c] 24)).alloc (.cells #[.bool rb.s, .slice rb.A rb.n rb.c] 24)) = W at *
  rw [← hq, ← hp] at K ⊢
  clear hp hq
  have c0a := K.c0 (g := q) (r := rb) (by simp)
  have c0b := K.c1 (g := q) (r := rb) (by simp)
  have c1a := K.c0 (g := p) (r := ra) (by simp)
  have c1b := K.c1 (g := p) (r := ra) (by simp)
  refine (great_any _ ra.s ra.A ra.n ra.c).mono ?_
  rintro e wn ⟨rfl, hbn⟩
  replace K := K.below hbn
  clear c0a c0b c1a c1b
  have c0a := K.c0 (g := q) (r := rb) (by simp)
  have c0b := K.c1 (g := q) (r := rb) (by simp)
  have c1a := K.c0 (g := p) (r := ra) (by simp)
  have c1b := K.c1 (g := p) (r := ra) (by simp)
  go_wp2_with fail
  refine (great_any _ rb.s rb.A rb.n rb.c).mono ?_
  rintro e wn ⟨rfl, hbn⟩
  replace K := K.below hbn
  clear c0a c0b c1a c1b
  have c0a := K.c0 (g := q) (r := rb) (by simp)
  have c0b := K.c1 (g := q) (r := rb) (by simp)
  have c1a := K.c0 (g := p) (r := ra) (by simp)
  have c1b := K.c1 (g := p) (r := ra) (by simp)
  go_wp2_with fail
  refine (awake_any _).mono ?_
  rintro e wn ⟨rfl, hbn⟩
  go_wp2
  go_ret
  exact ⟨rfl, (K.below hbn).bl⟩

end Go.Proofs.Ytlmojomnebjhaaa
