/-
  beehivelaw1.NumRing RETURNS TRUE WHERE IT PASSES ITS NUMBERS OVER: its walks; and the whole.
-/
import Derived.Test.YtlmojomnebjhaaaLawRing
namespace Go.Proofs.Ytlmojomnebjhaaa
open Go.RowKit

set_option maxRecDepth 100000 in
set_option maxHeartbeats 2000000 in
theorem numRing_no0 (w : World) (ra rb rc : NumR) (la lb lc : List Nat) (_r0 : Raw w ra.A ra.n ra.c la) (_r1 : Raw w rb.A rb.n rb.c lb) (_r2 : Raw w rc.A rc.n rc.c lc) (h0 : 40 < ra.n) :
    Calls Try.prog 4 #[.agg #[.bool ra.s, .slice ra.A ra.n ra.c], .agg #[.bool rb.s, .slice rb.A rb.n rb.c], .agg #[.bool rc.s, .slice rc.A rc.n rc.c]] w fun e w' => e = .returned (.bool true) ∧ Below w.heap.size w w' := by
  have K0 : Env w [] [] w := ⟨Below.refl _ _, fun r hr => by simp at hr, fun r hr => by simp at hr, fun x hx => by simp at hx⟩
  have K := (((K0.new ra).new rb).new rc)
  simp only [World.size_alloc] at K
  clear K0
  have f0 : decide (40 < ra.n) = true := by rw [decide_eq_true_iff]; omega
  go_enter Try.func4, Try.ntmps4
  go_wp2_with fail
  obtain ⟨p, hp⟩ : ∃ p, p = w.heap.size := ⟨_, rfl⟩
  obtain ⟨q, hq⟩ : ∃ q, q = w.heap.size + 1 := ⟨_, rfl⟩
  obtain ⟨o, ho⟩ : ∃ o, o = w.heap.size + 1 + 1 := ⟨_, rfl⟩
  generalize (((w.alloc (.cells #[.bool ra.s, .slice ra.A ra.n ra.c] 24)).alloc (.cells #[.bool rb.s, .slice rb.A rb.n rb.c] 24)).alloc (.cells #[.bool rc.s, .slice rc.A rc.n rc.c] 24)) = W at *
  rw [← ho, ← hq, ← hp] at K ⊢
  clear hp hq ho
  have c0a := K.c0 (g := o) (r := rc) (by simp)
  have c0b := K.c1 (g := o) (r := rc) (by simp)
  have c1a := K.c0 (g := q) (r := rb) (by simp)
  have c1b := K.c1 (g := q) (r := rb) (by simp)
  have c2a := K.c0 (g := p) (r := ra) (by simp)
  have c2b := K.c1 (g := p) (r := ra) (by simp)
  refine (great_any _ ra.s ra.A ra.n ra.c).mono ?_
  rintro e wn ⟨rfl, hbn⟩
  replace K := K.below hbn
  clear c0a c0b c1a c1b c2a c2b
  have c0a := K.c0 (g := o) (r := rc) (by simp)
  have c0b := K.c1 (g := o) (r := rc) (by simp)
  have c1a := K.c0 (g := q) (r := rb) (by simp)
  have c1b := K.c1 (g := q) (r := rb) (by simp)
  have c2a := K.c0 (g := p) (r := ra) (by simp)
  have c2b := K.c1 (g := p) (r := ra) (by simp)
  go_wp2_with fail
  refine (awake_any _).mono ?_
  rintro e wn ⟨rfl, hbn⟩
  go_wp2
  go_ret
  exact ⟨rfl, (K.below hbn).bl⟩

set_option maxRecDepth 100000 in
set_option maxHeartbeats 2000000 in
theorem numRing_no1 (w : World) (ra rb rc : NumR) (la lb lc : List Nat) (_r0 : Raw w ra.A ra.n ra.c la) (_r1 : Raw w rb.A rb.n rb.c lb) (_r2 : Raw w rc.A rc.n rc.c lc) (h0 : ra.n ≤ 40) (h1 : 40 < rb.n) :
    Calls Try.prog 4 #[.agg #[.bool ra.s, .slice ra.A ra.n ra.c], .agg #[.bool rb.s, .slice rb.A rb.n rb.c], .agg #[.bool rc.s, .slice rc.A rc.n rc.c]] w fun e w' => e = .returned (.bool true) ∧ Below w.heap.size w w' := by
  have K0 : Env w [] [] w := ⟨Below.refl _ _, fun r hr => by simp at hr, fun r hr => by simp at hr, fun x hx => by simp at hx⟩
  have K := (((K0.new ra).new rb).new rc)
  simp only [World.size_alloc] at K
  clear K0
  have f0 : decide (40 < ra.n) = false := by rw [decide_eq_false_iff_not]; omega
  have f1 : decide (40 < rb.n) = true := by rw [decide_eq_true_iff]; omega
  go_enter Try.func4, Try.ntmps4
  go_wp2_with fail
  obtain ⟨p, hp⟩ : ∃ p, p = w.heap.size := ⟨_, rfl⟩
  obtain ⟨q, hq⟩ : ∃ q, q = w.heap.size + 1 := ⟨_, rfl⟩
  obtain ⟨o, ho⟩ : ∃ o, o = w.heap.size + 1 + 1 := ⟨_, rfl⟩
  generalize (((w.alloc (.cells #[.bool ra.s, .slice ra.A ra.n ra.c] 24)).alloc (.cells #[.bool rb.s, .slice rb.A rb.n rb.c] 24)).alloc (.cells #[.bool rc.s, .slice rc.A rc.n rc.c] 24)) = W at *
  rw [← ho, ← hq, ← hp] at K ⊢
  clear hp hq ho
  have c0a := K.c0 (g := o) (r := rc) (by simp)
  have c0b := K.c1 (g := o) (r := rc) (by simp)
  have c1a := K.c0 (g := q) (r := rb) (by simp)
  have c1b := K.c1 (g := q) (r := rb) (by simp)
  have c2a := K.c0 (g := p) (r := ra) (by simp)
  have c2b := K.c1 (g := p) (r := ra) (by simp)
  refine (great_any _ ra.s ra.A ra.n ra.c).mono ?_
  rintro e wn ⟨rfl, hbn⟩
  replace K := K.below hbn
  clear c0a c0b c1a c1b c2a c2b
  have c0a := K.c0 (g := o) (r := rc) (by simp)
  have c0b := K.c1 (g := o) (r := rc) (by simp)
  have c1a := K.c0 (g := q) (r := rb) (by simp)
  have c1b := K.c1 (g := q) (r := rb) (by simp)
  have c2a := K.c0 (g := p) (r := ra) (by simp)
  have c2b := K.c1 (g := p) (r := ra) (by simp)
  go_wp2_with fail
  refine (great_any _ rb.s rb.A rb.n rb.c).mono ?_
  rintro e wn ⟨rfl, hbn⟩
  replace K := K.below hbn
  clear c0a c0b c1a c1b c2a c2b
  have c0a := K.c0 (g := o) (r := rc) (by simp)
  have c0b := K.c1 (g := o) (r := rc) (by simp)
  have c1a := K.c0 (g := q) (r := rb) (by simp)
  have c1b := K.c1 (g := q) (r := rb) (by simp)
  have c2a := K.c0 (g := p) (r := ra) (by simp)
  have c2b := K.c1 (g := p) (r := ra) (by simp)
  go_wp2_with fail
  refine (awake_any _).mono ?_
  rintro e wn ⟨rfl, hbn⟩
  go_wp2
  go_ret
  exact ⟨rfl, (K.below hbn).bl⟩

set_option maxRecDepth 100000 in
set_option maxHeartbeats 2000000 in
theorem numRing_no2 (w : World) (ra rb rc : NumR) (la lb lc : List Nat) (_r0 : Raw w ra.A ra.n ra.c la) (_r1 : Raw w rb.A rb.n rb.c lb) (_r2 : Raw w rc.A rc.n rc.c lc) (h0 : ra.n ≤ 40) (h1 : rb.n ≤ 40) (h2 : 40 < rc.n) :
    Calls Try.prog 4 #[.agg #[.bool ra.s, .slice ra.A ra.n ra.c], .agg #[.bool rb.s, .slice rb.A rb.n rb.c], .agg #[.bool rc.s, .slice rc.A rc.n rc.c]] w fun e w' => e = .returned (.bool true) ∧ Below w.heap.size w w' := by
  have K0 : Env w [] [] w := ⟨Below.refl _ _, fun r hr => by simp at hr, fun r hr => by simp at hr, fun x hx => by simp at hx⟩
  have K := (((K0.new ra).new rb).new rc)
  simp only [World.size_alloc] at K
  clear K0
  have f0 : decide (40 < ra.n) = false := by rw [decide_eq_false_iff_not]; omega
  have f1 : decide (40 < rb.n) = false := by rw [decide_eq_false_iff_not]; omega
  have f2 : decide (40 < rc.n) = true := by rw [decide_eq_true_iff]; omega
  go_enter Try.func4, Try.ntmps4
  go_wp2_with fail
  obtain ⟨p, hp⟩ : ∃ p, p = w.heap.size := ⟨_, rfl⟩
  obtain ⟨q, hq⟩ : ∃ q, q = w.heap.size + 1 := ⟨_, rfl⟩
  obtain ⟨o, ho⟩ : ∃ o, o = w.heap.size + 1 + 1 := ⟨_, rfl⟩
  generalize (((w.alloc (.cells #[.bool ra.s, .slice ra.A ra.n ra.c] 24)).alloc (.cells #[.bool rb.s, .slice rb.A rb.n rb.c] 24)).alloc (.cells #[.bool rc.s, .slice rc.A rc.n rc.c] 24)) = W at *
  rw [← ho, ← hq, ← hp] at K ⊢
  clear hp hq ho
  have c0a := K.c0 (g := o) (r := rc) (by simp)
  have c0b := K.c1 (g := o) (r := rc) (by simp)
  have c1a := K.c0 (g := q) (r := rb) (by simp)
  have c1b := K.c1 (g := q) (r := rb) (by simp)
  have c2a := K.c0 (g := p) (r := ra) (by simp)
  have c2b := K.c1 (g := p) (r := ra) (by simp)
  refine (great_any _ ra.s ra.A ra.n ra.c).mono ?_
  rintro e wn ⟨rfl, hbn⟩
  replace K := K.below hbn
  clear c0a c0b c1a c1b c2a c2b
  have c0a := K.c0 (g := o) (r := rc) (by simp)
  have c0b := K.c1 (g := o) (r := rc) (by simp)
  have c1a := K.c0 (g := q) (r := rb) (by simp)
  have c1b := K.c1 (g := q) (r := rb) (by simp)
  have c2a := K.c0 (g := p) (r := ra) (by simp)
  have c2b := K.c1 (g := p) (r := ra) (by simp)
  go_wp2_with fail
  refine (great_any _ rb.s rb.A rb.n rb.c).mono ?_
  rintro e wn ⟨rfl, hbn⟩
  replace K := K.below hbn
  clear c0a c0b c1a c1b c2a c2b
  have c0a := K.c0 (g := o) (r := rc) (by simp)
  have c0b := K.c1 (g := o) (r := rc) (by simp)
  have c1a := K.c0 (g := q) (r := rb) (by simp)
  have c1b := K.c1 (g := q) (r := rb) (by simp)
  have c2a := K.c0 (g := p) (r := ra) (by simp)
  have c2b := K.c1 (g := p) (r := ra) (by simp)
  go_wp2_with fail
  refine (great_any _ rc.s rc.A rc.n rc.c).mono ?_
  rintro e wn ⟨rfl, hbn⟩
  replace K := K.below hbn
  clear c0a c0b c1a c1b c2a c2b
  have c0a := K.c0 (g := o) (r := rc) (by simp)
  have c0b := K.c1 (g := o) (r := rc) (by simp)
  have c1a := K.c0 (g := q) (r := rb) (by simp)
  have c1b := K.c1 (g := q) (r := rb) (by simp)
  have c2a := K.c0 (g := p) (r := ra) (by simp)
  have c2b := K.c1 (g := p) (r := ra) (by simp)
  go_wp2_with fail
  refine (awake_any _).mono ?_
  rintro e wn ⟨rfl, hbn⟩
  go_wp2
  go_ret
  exact ⟨rfl, (K.below hbn).bl⟩

set_option maxRecDepth 100000 in
set_option maxHeartbeats 2000000 in
theorem numRing_no3 (w : World) (ra rb rc : NumR) (la lb lc : List Nat) (r0 : Raw w ra.A ra.n ra.c la) (_r1 : Raw w rb.A rb.n rb.c lb) (_r2 : Raw w rc.A rc.n rc.c lc) (h0 : ra.n ≤ 40) (h1 : rb.n ≤ 40) (h2 : rc.n ≤ 40) (f3 : mayB ra.s la = false) :
    Calls Try.prog 4 #[.agg #[.bool ra.s, .slice ra.A ra.n ra.c], .agg #[.bool rb.s, .slice rb.A rb.n rb.c], .agg #[.bool rc.s, .slice rc.A rc.n rc.c]] w fun e w' => e = .returned (.bool true) ∧ Below w.heap.size w w' := by
  have K0 : Env w [] [] w := ⟨Below.refl _ _, fun r hr => by simp at hr, fun r hr => by simp at hr, fun x hx => by simp at hx⟩
  have K := (((K0.new ra).new rb).new rc)
  simp only [World.size_alloc] at K
  clear K0
  have f0 : decide (40 < ra.n) = false := by rw [decide_eq_false_iff_not]; omega
  have f1 : decide (40 < rb.n) = false := by rw [decide_eq_false_iff_not]; omega
  have f2 : decide (40 < rc.n) = false := by rw [decide_eq_false_iff_not]; omega
  go_enter Try.func4, Try.ntmps4
  go_wp2_with fail
  obtain ⟨p, hp⟩ : ∃ p, p = w.heap.size := ⟨_, rfl⟩
  obtain ⟨q, hq⟩ : ∃ q, q = w.heap.size + 1 := ⟨_, rfl⟩
  obtain ⟨o, ho⟩ : ∃ o, o = w.heap.size + 1 + 1 := ⟨_, rfl⟩
  generalize (((w.alloc (.cells #[.bool ra.s, .slice ra.A ra.n ra.c] 24)).alloc (.cells #[.bool rb.s, .slice rb.A rb.n rb.c] 24)).alloc (.cells #[.bool rc.s, .slice rc.A rc.n rc.c] 24)) = W at *
  rw [← ho, ← hq, ← hp] at K ⊢
  clear hp hq ho
  have c0a := K.c0 (g := o) (r := rc) (by simp)
  have c0b := K.c1 (g := o) (r := rc) (by simp)
  have c1a := K.c0 (g := q) (r := rb) (by simp)
  have c1b := K.c1 (g := q) (r := rb) (by simp)
  have c2a := K.c0 (g := p) (r := ra) (by simp)
  have c2b := K.c1 (g := p) (r := ra) (by simp)
  refine (great_any _ ra.s ra.A ra.n ra.c).mono ?_
  rintro e wn ⟨rfl, hbn⟩
  replace K := K.below hbn
  clear c0a c0b c1a c1b c2a c2b
  have c0a := K.c0 (g := o) (r := rc) (by simp)
  have c0b := K.c1 (g := o) (r := rc) (by simp)
  have c1a := K.c0 (g := q) (r := rb) (by simp)
  have c1b := K.c1 (g := q) (r := rb) (by simp)
  have c2a := K.c0 (g := p) (r := ra) (by simp)
  have c2b := K.c1 (g := p) (r := ra) (by simp)
  go_wp2_with fail
  refine (great_any _ rb.s rb.A rb.n rb.c).mono ?_
  rintro e wn ⟨rfl, hbn⟩
  replace K := K.below hbn
  clear c0a c0b c1a c1b c2a c2b
  have c0a := K.c0 (g := o) (r := rc) (by simp)
  have c0b := K.c1 (g := o) (r := rc) (by simp)
  have c1a := K.c0 (g := q) (r := rb) (by simp)
  have c1b := K.c1 (g := q) (r := rb) (by simp)
  have c2a := K.c0 (g := p) (r := ra) (by simp)
  have c2b := K.c1 (g := p) (r := ra) (by simp)
  go_wp2_with fail
  refine (great_any _ rc.s rc.A rc.n rc.c).mono ?_
  rintro e wn ⟨rfl, hbn⟩
  replace K := K.below hbn
  clear c0a c0b c1a c1b c2a c2b
  have c0a := K.c0 (g := o) (r := rc) (by simp)
  have c0b := K.c1 (g := o) (r := rc) (by simp)
  have c1a := K.c0 (g := q) (r := rb) (by simp)
  have c1b := K.c1 (g := q) (r := rb) (by simp)
  have c2a := K.c0 (g := p) (r := ra) (by simp)
  have c2b := K.c1 (g := p) (r := ra) (by simp)
  go_wp2_with fail
  refine (may_b _ ra.s ra.A ra.n ra.c la (r0.below K.bl)).mono ?_
  rintro e wn ⟨rfl, hbn⟩
  replace K := K.below hbn
  clear c0a c0b c1a c1b c2a c2b
  have c0a := K.c0 (g := o) (r := rc) (by simp)
  have c0b := K.c1 (g := o) (r := rc) (by simp)
  have c1a := K.c0 (g := q) (r := rb) (by simp)
  have c1b := K.c1 (g := q) (r := rb) (by simp)
  have c2a := K.c0 (g := p) (r := ra) (by simp)
  have c2b := K.c1 (g := p) (r := ra) (by simp)
  go_wp2_with fail
  refine (awake_any _).mono ?_
  rintro e wn ⟨rfl, hbn⟩
  go_wp2
  go_ret
  exact ⟨rfl, (K.below hbn).bl⟩

set_option maxRecDepth 100000 in
set_option maxHeartbeats 2000000 in
theorem numRing_no4 (w : World) (ra rb rc : NumR) (la lb lc : List Nat) (r0 : Raw w ra.A ra.n ra.c la) (r1 : Raw w rb.A rb.n rb.c lb) (_r2 : Raw w rc.A rc.n rc.c lc) (h0 : ra.n ≤ 40) (h1 : rb.n ≤ 40) (h2 : rc.n ≤ 40) (f3 : mayB ra.s la = true) (f4 : mayB rb.s lb = false) :
    Calls Try.prog 4 #[.agg #[.bool ra.s, .slice ra.A ra.n ra.c], .agg #[.bool rb.s, .slice rb.A rb.n rb.c], .agg #[.bool rc.s, .slice rc.A rc.n rc.c]] w fun e w' => e = .returned (.bool true) ∧ Below w.heap.size w w' := by
  have K0 : Env w [] [] w := ⟨Below.refl _ _, fun r hr => by simp at hr, fun r hr => by simp at hr, fun x hx => by simp at hx⟩
  have K := (((K0.new ra).new rb).new rc)
  simp only [World.size_alloc] at K
  clear K0
  have f0 : decide (40 < ra.n) = false := by rw [decide_eq_false_iff_not]; omega
  have f1 : decide (40 < rb.n) = false := by rw [decide_eq_false_iff_not]; omega
  have f2 : decide (40 < rc.n) = false := by rw [decide_eq_false_iff_not]; omega
  go_enter Try.func4, Try.ntmps4
  go_wp2_with fail
  obtain ⟨p, hp⟩ : ∃ p, p = w.heap.size := ⟨_, rfl⟩
  obtain ⟨q, hq⟩ : ∃ q, q = w.heap.size + 1 := ⟨_, rfl⟩
  obtain ⟨o, ho⟩ : ∃ o, o = w.heap.size + 1 + 1 := ⟨_, rfl⟩
  generalize (((w.alloc (.cells #[.bool ra.s, .slice ra.A ra.n ra.c] 24)).alloc (.cells #[.bool rb.s, .slice rb.A rb.n rb.c] 24)).alloc (.cells #[.bool rc.s, .slice rc.A rc.n rc.c] 24)) = W at *
  rw [← ho, ← hq, ← hp] at K ⊢
  clear hp hq ho
  have c0a := K.c0 (g := o) (r := rc) (by simp)
  have c0b := K.c1 (g := o) (r := rc) (by simp)
  have c1a := K.c0 (g := q) (r := rb) (by simp)
  have c1b := K.c1 (g := q) (r := rb) (by simp)
  have c2a := K.c0 (g := p) (r := ra) (by simp)
  have c2b := K.c1 (g := p) (r := ra) (by simp)
  refine (great_any _ ra.s ra.A ra.n ra.c).mono ?_
  rintro e wn ⟨rfl, hbn⟩
  replace K := K.below hbn
  clear c0a c0b c1a c1b c2a c2b
  have c0a := K.c0 (g := o) (r := rc) (by simp)
  have c0b := K.c1 (g := o) (r := rc) (by simp)
  have c1a := K.c0 (g := q) (r := rb) (by simp)
  have c1b := K.c1 (g := q) (r := rb) (by simp)
  have c2a := K.c0 (g := p) (r := ra) (by simp)
  have c2b := K.c1 (g := p) (r := ra) (by simp)
  go_wp2_with fail
  refine (great_any _ rb.s rb.A rb.n rb.c).mono ?_
  rintro e wn ⟨rfl, hbn⟩
  replace K := K.below hbn
  clear c0a c0b c1a c1b c2a c2b
  have c0a := K.c0 (g := o) (r := rc) (by simp)
  have c0b := K.c1 (g := o) (r := rc) (by simp)
  have c1a := K.c0 (g := q) (r := rb) (by simp)
  have c1b := K.c1 (g := q) (r := rb) (by simp)
  have c2a := K.c0 (g := p) (r := ra) (by simp)
  have c2b := K.c1 (g := p) (r := ra) (by simp)
  go_wp2_with fail
  refine (great_any _ rc.s rc.A rc.n rc.c).mono ?_
  rintro e wn ⟨rfl, hbn⟩
  replace K := K.below hbn
  clear c0a c0b c1a c1b c2a c2b
  have c0a := K.c0 (g := o) (r := rc) (by simp)
  have c0b := K.c1 (g := o) (r := rc) (by simp)
  have c1a := K.c0 (g := q) (r := rb) (by simp)
  have c1b := K.c1 (g := q) (r := rb) (by simp)
  have c2a := K.c0 (g := p) (r := ra) (by simp)
  have c2b := K.c1 (g := p) (r := ra) (by simp)
  go_wp2_with fail
  refine (may_b _ ra.s ra.A ra.n ra.c la (r0.below K.bl)).mono ?_
  rintro e wn ⟨rfl, hbn⟩
  replace K := K.below hbn
  clear c0a c0b c1a c1b c2a c2b
  have c0a := K.c0 (g := o) (r := rc) (by simp)
  have c0b := K.c1 (g := o) (r := rc) (by simp)
  have c1a := K.c0 (g := q) (r := rb) (by simp)
  have c1b := K.c1 (g := q) (r := rb) (by simp)
  have c2a := K.c0 (g := p) (r := ra) (by simp)
  have c2b := K.c1 (g := p) (r := ra) (by simp)
  go_wp2_with fail
  refine (may_b _ rb.s rb.A rb.n rb.c lb (r1.below K.bl)).mono ?_
  rintro e wn ⟨rfl, hbn⟩
  replace K := K.below hbn
  clear c0a c0b c1a c1b c2a c2b
  have c0a := K.c0 (g := o) (r := rc) (by simp)
  have c0b := K.c1 (g := o) (r := rc) (by simp)
  have c1a := K.c0 (g := q) (r := rb) (by simp)
  have c1b := K.c1 (g := q) (r := rb) (by simp)
  have c2a := K.c0 (g := p) (r := ra) (by simp)
  have c2b := K.c1 (g := p) (r := ra) (by simp)
  go_wp2_with fail
  refine (awake_any _).mono ?_
  rintro e wn ⟨rfl, hbn⟩
  go_wp2
  go_ret
  exact ⟨rfl, (K.below hbn).bl⟩

set_option maxRecDepth 100000 in
set_option maxHeartbeats 2000000 in
theorem numRing_no5 (w : World) (ra rb rc : NumR) (la lb lc : List Nat) (r0 : Raw w ra.A ra.n ra.c la) (r1 : Raw w rb.A rb.n rb.c lb) (r2 : Raw w rc.A rc.n rc.c lc) (h0 : ra.n ≤ 40) (h1 : rb.n ≤ 40) (h2 : rc.n ≤ 40) (f3 : mayB ra.s la = true) (f4 : mayB rb.s lb = true) (f5 : mayB rc.s lc = false) :
    Calls Try.prog 4 #[.agg #[.bool ra.s, .slice ra.A ra.n ra.c], .agg #[.bool rb.s, .slice rb.A rb.n rb.c], .agg #[.bool rc.s, .slice rc.A rc.n rc.c]] w fun e w' => e = .returned (.bool true) ∧ Below w.heap.size w w' := by
  have K0 : Env w [] [] w := ⟨Below.refl _ _, fun r hr => by simp at hr, fun r hr => by simp at hr, fun x hx => by simp at hx⟩
  have K := (((K0.new ra).new rb).new rc)
  simp only [World.size_alloc] at K
  clear K0
  have f0 : decide (40 < ra.n) = false := by rw [decide_eq_false_iff_not]; omega
  have f1 : decide (40 < rb.n) = false := by rw [decide_eq_false_iff_not]; omega
  have f2 : decide (40 < rc.n) = false := by rw [decide_eq_false_iff_not]; omega
  go_enter Try.func4, Try.ntmps4
  go_wp2_with fail
  obtain ⟨p, hp⟩ : ∃ p, p = w.heap.size := ⟨_, rfl⟩
  obtain ⟨q, hq⟩ : ∃ q, q = w.heap.size + 1 := ⟨_, rfl⟩
  obtain ⟨o, ho⟩ : ∃ o, o = w.heap.size + 1 + 1 := ⟨_, rfl⟩
  generalize (((w.alloc (.cells #[.bool ra.s, .slice ra.A ra.n ra.c] 24)).alloc (.cells #[.bool rb.s, .slice rb.A rb.n rb.c] 24)).alloc (.cells #[.bool rc.s, .slice rc.A rc.n rc.c] 24)) = W at *
  rw [← ho, ← hq, ← hp] at K ⊢
  clear hp hq ho
  have c0a := K.c0 (g := o) (r := rc) (by simp)
  have c0b := K.c1 (g := o) (r := rc) (by simp)
  have c1a := K.c0 (g := q) (r := rb) (by simp)
  have c1b := K.c1 (g := q) (r := rb) (by simp)
  have c2a := K.c0 (g := p) (r := ra) (by simp)
  have c2b := K.c1 (g := p) (r := ra) (by simp)
  refine (great_any _ ra.s ra.A ra.n ra.c).mono ?_
  rintro e wn ⟨rfl, hbn⟩
  replace K := K.below hbn
  clear c0a c0b c1a c1b c2a c2b
  have c0a := K.c0 (g := o) (r := rc) (by simp)
  have c0b := K.c1 (g := o) (r := rc) (by simp)
  have c1a := K.c0 (g := q) (r := rb) (by simp)
  have c1b := K.c1 (g := q) (r := rb) (by simp)
  have c2a := K.c0 (g := p) (r := ra) (by simp)
  have c2b := K.c1 (g := p) (r := ra) (by simp)
  go_wp2_with fail
  refine (great_any _ rb.s rb.A rb.n rb.c).mono ?_
  rintro e wn ⟨rfl, hbn⟩
  replace K := K.below hbn
  clear c0a c0b c1a c1b c2a c2b
  have c0a := K.c0 (g := o) (r := rc) (by simp)
  have c0b := K.c1 (g := o) (r := rc) (by simp)
  have c1a := K.c0 (g := q) (r := rb) (by simp)
  have c1b := K.c1 (g := q) (r := rb) (by simp)
  have c2a := K.c0 (g := p) (r := ra) (by simp)
  have c2b := K.c1 (g := p) (r := ra) (by simp)
  go_wp2_with fail
  refine (great_any _ rc.s rc.A rc.n rc.c).mono ?_
  rintro e wn ⟨rfl, hbn⟩
  replace K := K.below hbn
  clear c0a c0b c1a c1b c2a c2b
  have c0a := K.c0 (g := o) (r := rc) (by simp)
  have c0b := K.c1 (g := o) (r := rc) (by simp)
  have c1a := K.c0 (g := q) (r := rb) (by simp)
  have c1b := K.c1 (g := q) (r := rb) (by simp)
  have c2a := K.c0 (g := p) (r := ra) (by simp)
  have c2b := K.c1 (g := p) (r := ra) (by simp)
  go_wp2_with fail
  refine (may_b _ ra.s ra.A ra.n ra.c la (r0.below K.bl)).mono ?_
  rintro e wn ⟨rfl, hbn⟩
  replace K := K.below hbn
  clear c0a c0b c1a c1b c2a c2b
  have c0a := K.c0 (g := o) (r := rc) (by simp)
  have c0b := K.c1 (g := o) (r := rc) (by simp)
  have c1a := K.c0 (g := q) (r := rb) (by simp)
  have c1b := K.c1 (g := q) (r := rb) (by simp)
  have c2a := K.c0 (g := p) (r := ra) (by simp)
  have c2b := K.c1 (g := p) (r := ra) (by simp)
  go_wp2_with fail
  refine (may_b _ rb.s rb.A rb.n rb.c lb (r1.below K.bl)).mono ?_
  rintro e wn ⟨rfl, hbn⟩
  replace K := K.below hbn
  clear c0a c0b c1a c1b c2a c2b
  have c0a := K.c0 (g := o) (r := rc) (by simp)
  have c0b := K.c1 (g := o) (r := rc) (by simp)
  have c1a := K.c0 (g := q) (r := rb) (by simp)
  have c1b := K.c1 (g := q) (r := rb) (by simp)
  have c2a := K.c0 (g := p) (r := ra) (by simp)
  have c2b := K.c1 (g := p) (r := ra) (by simp)
  go_wp2_with fail
  refine (may_b _ rc.s rc.A rc.n rc.c lc (r2.below K.bl)).mono ?_
  rintro e wn ⟨rfl, hbn⟩
  replace K := K.below hbn
  clear c0a c0b c1a c1b c2a c2b
  have c0a := K.c0 (g := o) (r := rc) (by simp)
  have c0b := K.c1 (g := o) (r := rc) (by simp)
  have c1a := K.c0 (g := q) (r := rb) (by simp)
  have c1b := K.c1 (g := q) (r := rb) (by simp)
  have c2a := K.c0 (g := p) (r := ra) (by simp)
  have c2b := K.c1 (g := p) (r := ra) (by simp)
  go_wp2_with fail
  refine (awake_any _).mono ?_
  rintro e wn ⟨rfl, hbn⟩
  go_wp2
  go_ret
  exact ⟨rfl, (K.below hbn).bl⟩

set_option maxRecDepth 100000 in
set_option maxHeartbeats 2000000 in
theorem numRing_no6 (w : World) (ra rb rc : NumR) (la lb lc : List Nat) (r0 : Raw w ra.A ra.n ra.c la) (r1 : Raw w rb.A rb.n rb.c lb) (r2 : Raw w rc.A rc.n rc.c lc) (h0 : ra.n ≤ 40) (h1 : rb.n ≤ 40) (h2 : rc.n ≤ 40) (f3 : mayB ra.s la = true) (f4 : mayB rb.s lb = true) (f5 : mayB rc.s lc = true) (h6 : 2 < ra.n) :
    Calls Try.prog 4 #[.agg #[.bool ra.s, .slice ra.A ra.n ra.c], .agg #[.bool rb.s, .slice rb.A rb.n rb.c], .agg #[.bool rc.s, .slice rc.A rc.n rc.c]] w fun e w' => e = .returned (.bool true) ∧ Below w.heap.size w w' := by
  have K0 : Env w [] [] w := ⟨Below.refl _ _, fun r hr => by simp at hr, fun r hr => by simp at hr, fun x hx => by simp at hx⟩
  have K := (((K0.new ra).new rb).new rc)
  simp only [World.size_alloc] at K
  clear K0
  have f0 : decide (40 < ra.n) = false := by rw [decide_eq_false_iff_not]; omega
  have f1 : decide (40 < rb.n) = false := by rw [decide_eq_false_iff_not]; omega
  have f2 : decide (40 < rc.n) = false := by rw [decide_eq_false_iff_not]; omega
  have f6 : decide ((2 : Int) < (ra.n : Int)) = true := by rw [decide_eq_true_iff]; omega
  go_enter Try.func4, Try.ntmps4
  go_wp2_with fail
  obtain ⟨p, hp⟩ : ∃ p, p = w.heap.size := ⟨_, rfl⟩
  obtain ⟨q, hq⟩ : ∃ q, q = w.heap.size + 1 := ⟨_, rfl⟩
  obtain ⟨o, ho⟩ : ∃ o, o = w.heap.size + 1 + 1 := ⟨_, rfl⟩
  generalize (((w.alloc (.cells #[.bool ra.s, .slice ra.A ra.n ra.c] 24)).alloc (.cells #[.bool rb.s, .slice rb.A rb.n rb.c] 24)).alloc (.cells #[.bool rc.s, .slice rc.A rc.n rc.c] 24)) = W at *
  rw [← ho, ← hq, ← hp] at K ⊢
  clear hp hq ho
  have c0a := K.c0 (g := o) (r := rc) (by simp)
  have c0b := K.c1 (g := o) (r := rc) (by simp)
  have c1a := K.c0 (g := q) (r := rb) (by simp)
  have c1b := K.c1 (g := q) (r := rb) (by simp)
  have c2a := K.c0 (g := p) (r := ra) (by simp)
  have c2b := K.c1 (g := p) (r := ra) (by simp)
  refine (great_any _ ra.s ra.A ra.n ra.c).mono ?_
  rintro e wn ⟨rfl, hbn⟩
  replace K := K.below hbn
  clear c0a c0b c1a c1b c2a c2b
  have c0a := K.c0 (g := o) (r := rc) (by simp)
  have c0b := K.c1 (g := o) (r := rc) (by simp)
  have c1a := K.c0 (g := q) (r := rb) (by simp)
  have c1b := K.c1 (g := q) (r := rb) (by simp)
  have c2a := K.c0 (g := p) (r := ra) (by simp)
  have c2b := K.c1 (g := p) (r := ra) (by simp)
  go_wp2_with fail
  refine (great_any _ rb.s rb.A rb.n rb.c).mono ?_
  rintro e wn ⟨rfl, hbn⟩
  replace K := K.below hbn
  clear c0a c0b c1a c1b c2a c2b
  have c0a := K.c0 (g := o) (r := rc) (by simp)
  have c0b := K.c1 (g := o) (r := rc) (by simp)
  have c1a := K.c0 (g := q) (r := rb) (by simp)
  have c1b := K.c1 (g := q) (r := rb) (by simp)
  have c2a := K.c0 (g := p) (r := ra) (by simp)
  have c2b := K.c1 (g := p) (r := ra) (by simp)
  go_wp2_with fail
  refine (great_any _ rc.s rc.A rc.n rc.c).mono ?_
  rintro e wn ⟨rfl, hbn⟩
  replace K := K.below hbn
  clear c0a c0b c1a c1b c2a c2b
  have c0a := K.c0 (g := o) (r := rc) (by simp)
  have c0b := K.c1 (g := o) (r := rc) (by simp)
  have c1a := K.c0 (g := q) (r := rb) (by simp)
  have c1b := K.c1 (g := q) (r := rb) (by simp)
  have c2a := K.c0 (g := p) (r := ra) (by simp)
  have c2b := K.c1 (g := p) (r := ra) (by simp)
  go_wp2_with fail
  refine (may_b _ ra.s ra.A ra.n ra.c la (r0.below K.bl)).mono ?_
  rintro e wn ⟨rfl, hbn⟩
  replace K := K.below hbn
  clear c0a c0b c1a c1b c2a c2b
  have c0a := K.c0 (g := o) (r := rc) (by simp)
  have c0b := K.c1 (g := o) (r := rc) (by simp)
  have c1a := K.c0 (g := q) (r := rb) (by simp)
  have c1b := K.c1 (g := q) (r := rb) (by simp)
  have c2a := K.c0 (g := p) (r := ra) (by simp)
  have c2b := K.c1 (g := p) (r := ra) (by simp)
  go_wp2_with fail
  refine (may_b _ rb.s rb.A rb.n rb.c lb (r1.below K.bl)).mono ?_
  rintro e wn ⟨rfl, hbn⟩
  replace K := K.below hbn
  clear c0a c0b c1a c1b c2a c2b
  have c0a := K.c0 (g := o) (r := rc) (by simp)
  have c0b := K.c1 (g := o) (r := rc) (by simp)
  have c1a := K.c0 (g := q) (r := rb) (by simp)
  have c1b := K.c1 (g := q) (r := rb) (by simp)
  have c2a := K.c0 (g := p) (r := ra) (by simp)
  have c2b := K.c1 (g := p) (r := ra) (by simp)
  go_wp2_with fail
  refine (may_b _ rc.s rc.A rc.n rc.c lc (r2.below K.bl)).mono ?_
  rintro e wn ⟨rfl, hbn⟩
  replace K := K.below hbn
  clear c0a c0b c1a c1b c2a c2b
  have c0a := K.c0 (g := o) (r := rc) (by simp)
  have c0b := K.c1 (g := o) (r := rc) (by simp)
  have c1a := K.c0 (g := q) (r := rb) (by simp)
  have c1b := K.c1 (g := q) (r := rb) (by simp)
  have c2a := K.c0 (g := p) (r := ra) (by simp)
  have c2b := K.c1 (g := p) (r := ra) (by simp)
  go_wp2_with fail
  refine (awake_any _).mono ?_
  rintro e wn ⟨rfl, hbn⟩
  go_wp2
  go_ret
  exact ⟨rfl, (K.below hbn).bl⟩

set_option maxRecDepth 100000 in
set_option maxHeartbeats 2000000 in
theorem numRing_no7 (w : World) (ra rb rc : NumR) (la lb lc : List Nat) (r0 : Raw w ra.A ra.n ra.c la) (r1 : Raw w rb.A rb.n rb.c lb) (r2 : Raw w rc.A rc.n rc.c lc) (h0 : ra.n ≤ 40) (h1 : rb.n ≤ 40) (h2 : rc.n ≤ 40) (f3 : mayB ra.s la = true) (f4 : mayB rb.s lb = true) (f5 : mayB rc.s lc = true) (h6 : ra.n ≤ 2) (h7 : 2 < rb.n) :
    Calls Try.prog 4 #[.agg #[.bool ra.s, .slice ra.A ra.n ra.c], .agg #[.bool rb.s, .slice rb.A rb.n rb.c], .agg #[.bool rc.s, .slice rc.A rc.n rc.c]] w fun e w' => e = .returned (.bool true) ∧ Below w.heap.size w w' := by
  have K0 : Env w [] [] w := ⟨Below.refl _ _, fun r hr => by simp at hr, fun r hr => by simp at hr, fun x hx => by simp at hx⟩
  have K := (((K0.new ra).new rb).new rc)
  simp only [World.size_alloc] at K
  clear K0
  have f0 : decide (40 < ra.n) = false := by rw [decide_eq_false_iff_not]; omega
  have f1 : decide (40 < rb.n) = false := by rw [decide_eq_false_iff_not]; omega
  have f2 : decide (40 < rc.n) = false := by rw [decide_eq_false_iff_not]; omega
  have f6 : decide ((2 : Int) < (ra.n : Int)) = false := by rw [decide_eq_false_iff_not]; omega
  have f7 : decide ((2 : Int) < (rb.n : Int)) = true := by rw [decide_eq_true_iff]; omega
  go_enter Try.func4, Try.ntmps4
  go_wp2_with fail
  obtain ⟨p, hp⟩ : ∃ p, p = w.heap.size := ⟨_, rfl⟩
  obtain ⟨q, hq⟩ : ∃ q, q = w.heap.size + 1 := ⟨_, rfl⟩
  obtain ⟨o, ho⟩ : ∃ o, o = w.heap.size + 1 + 1 := ⟨_, rfl⟩
  generalize (((w.alloc (.cells #[.bool ra.s, .slice ra.A ra.n ra.c] 24)).alloc (.cells #[.bool rb.s, .slice rb.A rb.n rb.c] 24)).alloc (.cells #[.bool rc.s, .slice rc.A rc.n rc.c] 24)) = W at *
  rw [← ho, ← hq, ← hp] at K ⊢
  clear hp hq ho
  have c0a := K.c0 (g := o) (r := rc) (by simp)
  have c0b := K.c1 (g := o) (r := rc) (by simp)
  have c1a := K.c0 (g := q) (r := rb) (by simp)
  have c1b := K.c1 (g := q) (r := rb) (by simp)
  have c2a := K.c0 (g := p) (r := ra) (by simp)
  have c2b := K.c1 (g := p) (r := ra) (by simp)
  refine (great_any _ ra.s ra.A ra.n ra.c).mono ?_
  rintro e wn ⟨rfl, hbn⟩
  replace K := K.below hbn
  clear c0a c0b c1a c1b c2a c2b
  have c0a := K.c0 (g := o) (r := rc) (by simp)
  have c0b := K.c1 (g := o) (r := rc) (by simp)
  have c1a := K.c0 (g := q) (r := rb) (by simp)
  have c1b := K.c1 (g := q) (r := rb) (by simp)
  have c2a := K.c0 (g := p) (r := ra) (by simp)
  have c2b := K.c1 (g := p) (r := ra) (by simp)
  go_wp2_with fail
  refine (great_any _ rb.s rb.A rb.n rb.c).mono ?_
  rintro e wn ⟨rfl, hbn⟩
  replace K := K.below hbn
  clear c0a c0b c1a c1b c2a c2b
  have c0a := K.c0 (g := o) (r := rc) (by simp)
  have c0b := K.c1 (g := o) (r := rc) (by simp)
  have c1a := K.c0 (g := q) (r := rb) (by simp)
  have c1b := K.c1 (g := q) (r := rb) (by simp)
  have c2a := K.c0 (g := p) (r := ra) (by simp)
  have c2b := K.c1 (g := p) (r := ra) (by simp)
  go_wp2_with fail
  refine (great_any _ rc.s rc.A rc.n rc.c).mono ?_
  rintro e wn ⟨rfl, hbn⟩
  replace K := K.below hbn
  clear c0a c0b c1a c1b c2a c2b
  have c0a := K.c0 (g := o) (r := rc) (by simp)
  have c0b := K.c1 (g := o) (r := rc) (by simp)
  have c1a := K.c0 (g := q) (r := rb) (by simp)
  have c1b := K.c1 (g := q) (r := rb) (by simp)
  have c2a := K.c0 (g := p) (r := ra) (by simp)
  have c2b := K.c1 (g := p) (r := ra) (by simp)
  go_wp2_with fail
  refine (may_b _ ra.s ra.A ra.n ra.c la (r0.below K.bl)).mono ?_
  rintro e wn ⟨rfl, hbn⟩
  replace K := K.below hbn
  clear c0a c0b c1a c1b c2a c2b
  have c0a := K.c0 (g := o) (r := rc) (by simp)
  have c0b := K.c1 (g := o) (r := rc) (by simp)
  have c1a := K.c0 (g := q) (r := rb) (by simp)
  have c1b := K.c1 (g := q) (r := rb) (by simp)
  have c2a := K.c0 (g := p) (r := ra) (by simp)
  have c2b := K.c1 (g := p) (r := ra) (by simp)
  go_wp2_with fail
  refine (may_b _ rb.s rb.A rb.n rb.c lb (r1.below K.bl)).mono ?_
  rintro e wn ⟨rfl, hbn⟩
  replace K := K.below hbn
  clear c0a c0b c1a c1b c2a c2b
  have c0a := K.c0 (g := o) (r := rc) (by simp)
  have c0b := K.c1 (g := o) (r := rc) (by simp)
  have c1a := K.c0 (g := q) (r := rb) (by simp)
  have c1b := K.c1 (g := q) (r := rb) (by simp)
  have c2a := K.c0 (g := p) (r := ra) (by simp)
  have c2b := K.c1 (g := p) (r := ra) (by simp)
  go_wp2_with fail
  refine (may_b _ rc.s rc.A rc.n rc.c lc (r2.below K.bl)).mono ?_
  rintro e wn ⟨rfl, hbn⟩
  replace K := K.below hbn
  clear c0a c0b c1a c1b c2a c2b
  have c0a := K.c0 (g := o) (r := rc) (by simp)
  have c0b := K.c1 (g := o) (r := rc) (by simp)
  have c1a := K.c0 (g := q) (r := rb) (by simp)
  have c1b := K.c1 (g := q) (r := rb) (by simp)
  have c2a := K.c0 (g := p) (r := ra) (by simp)
  have c2b := K.c1 (g := p) (r := ra) (by simp)
  go_wp2_with fail
  refine (awake_any _).mono ?_
  rintro e wn ⟨rfl, hbn⟩
  go_wp2
  go_ret
  exact ⟨rfl, (K.below hbn).bl⟩

set_option maxRecDepth 100000 in
set_option maxHeartbeats 2000000 in
theorem numRing_no8 (w : World) (ra rb rc : NumR) (la lb lc : List Nat) (r0 : Raw w ra.A ra.n ra.c la) (r1 : Raw w rb.A rb.n rb.c lb) (r2 : Raw w rc.A rc.n rc.c lc) (h0 : ra.n ≤ 40) (h1 : rb.n ≤ 40) (h2 : rc.n ≤ 40) (f3 : mayB ra.s la = true) (f4 : mayB rb.s lb = true) (f5 : mayB rc.s lc = true) (h6 : ra.n ≤ 2) (h7 : rb.n ≤ 2) (h8 : 2 < rc.n) :
    Calls Try.prog 4 #[.agg #[.bool ra.s, .slice ra.A ra.n ra.c], .agg #[.bool rb.s, .slice rb.A rb.n rb.c], .agg #[.bool rc.s, .slice rc.A rc.n rc.c]] w fun e w' => e = .returned (.bool true) ∧ Below w.heap.size w w' := by
  have K0 : Env w [] [] w := ⟨Below.refl _ _, fun r hr => by simp at hr, fun r hr => by simp at hr, fun x hx => by simp at hx⟩
  have K := (((K0.new ra).new rb).new rc)
  simp only [World.size_alloc] at K
  clear K0
  have f0 : decide (40 < ra.n) = false := by rw [decide_eq_false_iff_not]; omega
  have f1 : decide (40 < rb.n) = false := by rw [decide_eq_false_iff_not]; omega
  have f2 : decide (40 < rc.n) = false := by rw [decide_eq_false_iff_not]; omega
  have f6 : decide ((2 : Int) < (ra.n : Int)) = false := by rw [decide_eq_false_iff_not]; omega
  have f7 : decide ((2 : Int) < (rb.n : Int)) = false := by rw [decide_eq_false_iff_not]; omega
  have f8 : decide ((2 : Int) < (rc.n : Int)) = true := by rw [decide_eq_true_iff]; omega
  go_enter Try.func4, Try.ntmps4
  go_wp2_with fail
  obtain ⟨p, hp⟩ : ∃ p, p = w.heap.size := ⟨_, rfl⟩
  obtain ⟨q, hq⟩ : ∃ q, q = w.heap.size + 1 := ⟨_, rfl⟩
  obtain ⟨o, ho⟩ : ∃ o, o = w.heap.size + 1 + 1 := ⟨_, rfl⟩
  generalize (((w.alloc (.cells #[.bool ra.s, .slice ra.A ra.n ra.c] 24)).alloc (.cells #[.bool rb.s, .slice rb.A rb.n rb.c] 24)).alloc (.cells #[.bool rc.s, .slice rc.A rc.n rc.c] 24)) = W at *
  rw [← ho, ← hq, ← hp] at K ⊢
  clear hp hq ho
  have c0a := K.c0 (g := o) (r := rc) (by simp)
  have c0b := K.c1 (g := o) (r := rc) (by simp)
  have c1a := K.c0 (g := q) (r := rb) (by simp)
  have c1b := K.c1 (g := q) (r := rb) (by simp)
  have c2a := K.c0 (g := p) (r := ra) (by simp)
  have c2b := K.c1 (g := p) (r := ra) (by simp)
  refine (great_any _ ra.s ra.A ra.n ra.c).mono ?_
  rintro e wn ⟨rfl, hbn⟩
  replace K := K.below hbn
  clear c0a c0b c1a c1b c2a c2b
  have c0a := K.c0 (g := o) (r := rc) (by simp)
  have c0b := K.c1 (g := o) (r := rc) (by simp)
  have c1a := K.c0 (g := q) (r := rb) (by simp)
  have c1b := K.c1 (g := q) (r := rb) (by simp)
  have c2a := K.c0 (g := p) (r := ra) (by simp)
  have c2b := K.c1 (g := p) (r := ra) (by simp)
  go_wp2_with fail
  refine (great_any _ rb.s rb.A rb.n rb.c).mono ?_
  rintro e wn ⟨rfl, hbn⟩
  replace K := K.below hbn
  clear c0a c0b c1a c1b c2a c2b
  have c0a := K.c0 (g := o) (r := rc) (by simp)
  have c0b := K.c1 (g := o) (r := rc) (by simp)
  have c1a := K.c0 (g := q) (r := rb) (by simp)
  have c1b := K.c1 (g := q) (r := rb) (by simp)
  have c2a := K.c0 (g := p) (r := ra) (by simp)
  have c2b := K.c1 (g := p) (r := ra) (by simp)
  go_wp2_with fail
  refine (great_any _ rc.s rc.A rc.n rc.c).mono ?_
  rintro e wn ⟨rfl, hbn⟩
  replace K := K.below hbn
  clear c0a c0b c1a c1b c2a c2b
  have c0a := K.c0 (g := o) (r := rc) (by simp)
  have c0b := K.c1 (g := o) (r := rc) (by simp)
  have c1a := K.c0 (g := q) (r := rb) (by simp)
  have c1b := K.c1 (g := q) (r := rb) (by simp)
  have c2a := K.c0 (g := p) (r := ra) (by simp)
  have c2b := K.c1 (g := p) (r := ra) (by simp)
  go_wp2_with fail
  refine (may_b _ ra.s ra.A ra.n ra.c la (r0.below K.bl)).mono ?_
  rintro e wn ⟨rfl, hbn⟩
  replace K := K.below hbn
  clear c0a c0b c1a c1b c2a c2b
  have c0a := K.c0 (g := o) (r := rc) (by simp)
  have c0b := K.c1 (g := o) (r := rc) (by simp)
  have c1a := K.c0 (g := q) (r := rb) (by simp)
  have c1b := K.c1 (g := q) (r := rb) (by simp)
  have c2a := K.c0 (g := p) (r := ra) (by simp)
  have c2b := K.c1 (g := p) (r := ra) (by simp)
  go_wp2_with fail
  refine (may_b _ rb.s rb.A rb.n rb.c lb (r1.below K.bl)).mono ?_
  rintro e wn ⟨rfl, hbn⟩
  replace K := K.below hbn
  clear c0a c0b c1a c1b c2a c2b
  have c0a := K.c0 (g := o) (r := rc) (by simp)
  have c0b := K.c1 (g := o) (r := rc) (by simp)
  have c1a := K.c0 (g := q) (r := rb) (by simp)
  have c1b := K.c1 (g := q) (r := rb) (by simp)
  have c2a := K.c0 (g := p) (r := ra) (by simp)
  have c2b := K.c1 (g := p) (r := ra) (by simp)
  go_wp2_with fail
  refine (may_b _ rc.s rc.A rc.n rc.c lc (r2.below K.bl)).mono ?_
  rintro e wn ⟨rfl, hbn⟩
  replace K := K.below hbn
  clear c0a c0b c1a c1b c2a c2b
  have c0a := K.c0 (g := o) (r := rc) (by simp)
  have c0b := K.c1 (g := o) (r := rc) (by simp)
  have c1a := K.c0 (g := q) (r := rb) (by simp)
  have c1b := K.c1 (g := q) (r := rb) (by simp)
  have c2a := K.c0 (g := p) (r := ra) (by simp)
  have c2b := K.c1 (g := p) (r := ra) (by simp)
  go_wp2_with fail
  refine (awake_any _).mono ?_
  rintro e wn ⟨rfl, hbn⟩
  go_wp2
  go_ret
  exact ⟨rfl, (K.below hbn).bl⟩

theorem numRing_walk (w : World) (g g' g'' : Bool) (A B C : Option Addr) (n c m d i j : Nat) (l k t : List Nat) (h : Raw w A n c l) (h' : Raw w B m d k) (h'' : Raw w C i j t) :
    Calls Try.prog 4 #[.agg #[.bool g, .slice A n c], .agg #[.bool g', .slice B m d], .agg #[.bool g'', .slice C i j]] w fun e w' => e = .returned (.bool true) ∧ Below w.heap.size w w' := by
  by_cases h1 : 40 < n
  · exact numRing_no0 w ⟨g, A, n, c, 0⟩ ⟨g', B, m, d, 0⟩ ⟨g'', C, i, j, 0⟩ l k t h h' h'' h1
  have h1' := Nat.le_of_not_lt h1
  by_cases h2 : 40 < m
  · exact numRing_no1 w ⟨g, A, n, c, 0⟩ ⟨g', B, m, d, 0⟩ ⟨g'', C, i, j, 0⟩ l k t h h' h'' h1' h2
  have h2' := Nat.le_of_not_lt h2
  by_cases h3 : 40 < i
  · exact numRing_no2 w ⟨g, A, n, c, 0⟩ ⟨g', B, m, d, 0⟩ ⟨g'', C, i, j, 0⟩ l k t h h' h'' h1' h2' h3
  have h3' := Nat.le_of_not_lt h3
  cases ha : mayB g l with
  | false => exact numRing_no3 w ⟨g, A, n, c, 0⟩ ⟨g', B, m, d, 0⟩ ⟨g'', C, i, j, 0⟩ l k t h h' h'' h1' h2' h3' ha
  | true =>
  cases hb : mayB g' k with
  | false => exact numRing_no4 w ⟨g, A, n, c, 0⟩ ⟨g', B, m, d, 0⟩ ⟨g'', C, i, j, 0⟩ l k t h h' h'' h1' h2' h3' ha hb
  | true =>
  cases hc : mayB g'' t with
  | false => exact numRing_no5 w ⟨g, A, n, c, 0⟩ ⟨g', B, m, d, 0⟩ ⟨g'', C, i, j, 0⟩ l k t h h' h'' h1' h2' h3' ha hb hc
  | true =>
  by_cases h4 : 2 < n
  · exact numRing_no6 w ⟨g, A, n, c, 0⟩ ⟨g', B, m, d, 0⟩ ⟨g'', C, i, j, 0⟩ l k t h h' h'' h1' h2' h3' ha hb hc h4
  have h4' := Nat.le_of_not_lt h4
  by_cases h5 : 2 < m
  · exact numRing_no7 w ⟨g, A, n, c, 0⟩ ⟨g', B, m, d, 0⟩ ⟨g'', C, i, j, 0⟩ l k t h h' h'' h1' h2' h3' ha hb hc h4' h5
  have h5' := Nat.le_of_not_lt h5
  by_cases h6 : 2 < i
  · exact numRing_no8 w ⟨g, A, n, c, 0⟩ ⟨g', B, m, d, 0⟩ ⟨g'', C, i, j, 0⟩ l k t h h' h'' h1' h2' h3' ha hb hc h4' h5' h6
  have h6' := Nat.le_of_not_lt h6
  exact numRing_yes w ⟨g, A, n, c, sgn g (Lm.val l)⟩ ⟨g', B, m, d, sgn g' (Lm.val k)⟩ ⟨g'', C, i, j, sgn g'' (Lm.val t)⟩ (nt_of_raw h ha) (nt_of_raw h' hb) (nt_of_raw h'' hc) h4' h5' h6'

end Go.Proofs.Ytlmojomnebjhaaa
