/-
  beehivelaw1.NumMirrors RETURNS TRUE WHERE IT PASSES ITS NUMBERS OVER: its walks; and the whole.
-/
import Derived.Test.YtlmojomnebjhaaaLawMirr
namespace Go.Proofs.Ytlmojomnebjhaaa
open Go.RowKit

set_option maxRecDepth 100000 in
set_option maxHeartbeats 2000000 in
theorem numMirrors_no0 (w : World) (ra rb : NumR) (la lb : List Nat) (_r0 : Raw w ra.A ra.n ra.c la) (_r1 : Raw w rb.A rb.n rb.c lb) (h0 : 40 < ra.n) :
    Calls Try.prog 7 #[.agg #[.bool ra.s, .slice ra.A ra.n ra.c], .agg #[.bool rb.s, .slice rb.A rb.n rb.c]] w fun e w' => e = .returned (.bool true) ∧ Below w.heap.size w w' := by
  have K0 : Env w [] [] w := ⟨Below.refl _ _, fun r hr => by simp at hr, fun r hr => by simp at hr, fun x hx => by simp at hx⟩
  have K := ((K0.new ra).new rb)
  simp only [World.size_alloc] at K
  clear K0
  have f0 : decide (40 < ra.n) = true := by rw [decide_eq_true_iff]; omega
  go_enter Try.func7, Try.ntmps7
  go_wp2_with fail
  obtain ⟨p, hp⟩ : ∃ p, p = w.heap.size := ⟨_, rfl⟩
  obtain ⟨q, hq⟩ : ∃ q, q = w.heap.size + 1 := ⟨_, rfl⟩
  generalize ((w.alloc (.cells #[.bool ra.s, .slice ra.A ra.n ra.c] 24)).alloc (.cells #[.bool rb.s, .slice rb.A rb.n rb.c] 24)) = W at *
  rw [← hq, ← hp] at K ⊢
  clear hp hq
  have c0a := K.c0 (g := q) (r := rb) (by simp)
  have c0b := K.c1 (g := q) (r := rb) (by simp)
  have c1a := K.c0 (g := p) (r := ra) (by simp)
  have c1b := K.c1 (g := p) (r := ra) (by simp)
  refine (great_any _ ra.s ra.A ra.n ra.c).mono ?_
  rintro e wn ⟨rfl, hbn⟩
  replace K := K.below hbn
  clear c0a c0b c1a c1b
  have c0a := K.c0 (g := q) (r := rb) (by simp)
  have c0b := K.c1 (g := q) (r := rb) (by simp)
  have c1a := K.c0 (g := p) (r := ra) (by simp)
  have c1b := K.c1 (g := p) (r := ra) (by simp)
  go_wp2_with fail
  refine (awake_any _).mono ?_
  rintro e wn ⟨rfl, hbn⟩
  go_wp2
  go_ret
  exact ⟨rfl, (K.below hbn).bl⟩

set_option maxRecDepth 100000 in
set_option maxHeartbeats 2000000 in
theorem numMirrors_no1 (w : World) (ra rb : NumR) (la lb : List Nat) (_r0 : Raw w ra.A ra.n ra.c la) (_r1 : Raw w rb.A rb.n rb.c lb) (h0 : ra.n ≤ 40) (h1 : 40 < rb.n) :
    Calls Try.prog 7 #[.agg #[.bool ra.s, .slice ra.A ra.n ra.c], .agg #[.bool rb.s, .slice rb.A rb.n rb.c]] w fun e w' => e = .returned (.bool true) ∧ Below w.heap.size w w' := by
  have K0 : Env w [] [] w := ⟨Below.refl _ _, fun r hr => by simp at hr, fun r hr => by simp at hr, fun x hx => by simp at hx⟩
  have K := ((K0.new ra).new rb)
  simp only [World.size_alloc] at K
  clear K0
  have f0 : decide (40 < ra.n) = false := by rw [decide_eq_false_iff_not]; omega
  have f1 : decide (40 < rb.n) = true := by rw [decide_eq_true_iff]; omega
  go_enter Try.func7, Try.ntmps7
  go_wp2_with fail
  obtain ⟨p, hp⟩ : ∃ p, p = w.heap.size := ⟨_, rfl⟩
  obtain ⟨q, hq⟩ : ∃ q, q = w.heap.size + 1 := ⟨_, rfl⟩
  generalize ((w.alloc (.cells #[.bool ra.s, .slice ra.A ra.n ra.c] 24)).alloc (.cells #[.bool rb.s, .slice rb.A rb.n rb.c] 24)) = W at *
  rw [← hq, ← hp] at K ⊢
  clear hp hq
  have c0a := K.c0 (g := q) (r := rb) (by simp)
  have c0b := K.c1 (g := q) (r := rb) (by simp)
  have c1a := K.c0 (g := p) (r := ra) (by simp)
  have c1b := K.c1 (g := p) (r := ra) (by simp)
  refine (great_any _ ra.s ra.A ra.n ra.c).mono ?_
  rintro e wn ⟨rfl, hbn⟩
  replace K := K.below hbn
  clear c0a c0b c1a c1b
  have c0a := K.c0 (g := q) (r := rb) (by simp)
  have c0b := K.c1 (g := q) (r := rb) (by simp)
  have c1a := K.c0 (g := p) (r := ra) (by simp)
  have c1b := K.c1 (g := p) (r := ra) (by simp)
  go_wp2_with fail
  refine (great_any _ rb.s rb.A rb.n rb.c).mono ?_
  rintro e wn ⟨rfl, hbn⟩
  replace K := K.below hbn
  clear c0a c0b c1a c1b
  have c0a := K.c0 (g := q) (r := rb) (by simp)
  have c0b := K.c1 (g := q) (r := rb) (by simp)
  have c1a := K.c0 (g := p) (r := ra) (by simp)
  have c1b := K.c1 (g := p) (r := ra) (by simp)
  go_wp2_with fail
  refine (awake_any _).mono ?_
  rintro e wn ⟨rfl, hbn⟩
  go_wp2
  go_ret
  exact ⟨rfl, (K.below hbn).bl⟩

set_option maxRecDepth 100000 in
set_option maxHeartbeats 2000000 in
theorem numMirrors_no2 (w : World) (ra rb : NumR) (la lb : List Nat) (r0 : Raw w ra.A ra.n ra.c la) (_r1 : Raw w rb.A rb.n rb.c lb) (h0 : ra.n ≤ 40) (h1 : rb.n ≤ 40) (f2 : mayB ra.s la = false) :
    Calls Try.prog 7 #[.agg #[.bool ra.s, .slice ra.A ra.n ra.c], .agg #[.bool rb.s, .slice rb.A rb.n rb.c]] w fun e w' => e = .returned (.bool true) ∧ Below w.heap.size w w' := by
  have K0 : Env w [] [] w := ⟨Below.refl _ _, fun r hr => by simp at hr, fun r hr => by simp at hr, fun x hx => by simp at hx⟩
  have K := ((K0.new ra).new rb)
  simp only [World.size_alloc] at K
  clear K0
  have f0 : decide (40 < ra.n) = false := by rw [decide_eq_false_iff_not]; omega
  have f1 : decide (40 < rb.n) = false := by rw [decide_eq_false_iff_not]; omega
  go_enter Try.func7, Try.ntmps7
  go_wp2_with fail
  obtain ⟨p, hp⟩ : ∃ p, p = w.heap.size := ⟨_, rfl⟩
  obtain ⟨q, hq⟩ : ∃ q, q = w.heap.size + 1 := ⟨_, rfl⟩
  generalize ((w.alloc (.cells #[.bool ra.s, .slice ra.A ra.n ra.c] 24)).alloc (.cells #[.bool rb.s, .slice rb.A rb.n rb.c] 24)) = W at *
  rw [← hq, ← hp] at K ⊢
  clear hp hq
  have c0a := K.c0 (g := q) (r := rb) (by simp)
  have c0b := K.c1 (g := q) (r := rb) (by simp)
  have c1a := K.c0 (g := p) (r := ra) (by simp)
  have c1b := K.c1 (g := p) (r := ra) (by simp)
  refine (great_any _ ra.s ra.A ra.n ra.c).mono ?_
  rintro e wn ⟨rfl, hbn⟩
  replace K := K.below hbn
  clear c0a c0b c1a c1b
  have c0a := K.c0 (g := q) (r := rb) (by simp)
  have c0b := K.c1 (g := q) (r := rb) (by simp)
  have c1a := K.c0 (g := p) (r := ra) (by simp)
  have c1b := K.c1 (g := p) (r := ra) (by simp)
  go_wp2_with fail
  refine (great_any _ rb.s rb.A rb.n rb.c).mono ?_
  rintro e wn ⟨rfl, hbn⟩
  replace K := K.below hbn
  clear c0a c0b c1a c1b
  have c0a := K.c0 (g := q) (r := rb) (by simp)
  have c0b := K.c1 (g := q) (r := rb) (by simp)
  have c1a := K.c0 (g := p) (r := ra) (by simp)
  have c1b := K.c1 (g := p) (r := ra) (by simp)
  go_wp2_with fail
  refine (may_b _ ra.s ra.A ra.n ra.c la (r0.below K.bl)).mono ?_
  rintro e wn ⟨rfl, hbn⟩
  replace K := K.below hbn
  clear c0a c0b c1a c1b
  have c0a := K.c0 (g := q) (r := rb) (by simp)
  have c0b := K.c1 (g := q) (r := rb) (by simp)
  have c1a := K.c0 (g := p) (r := ra) (by simp)
  have c1b := K.c1 (g := p) (r := ra) (by simp)
  go_wp2_with fail
  refine (awake_any _).mono ?_
  rintro e wn ⟨rfl, hbn⟩
  go_wp2
  go_ret
  exact ⟨rfl, (K.below hbn).bl⟩

set_option maxRecDepth 100000 in
set_option maxHeartbeats 2000000 in
theorem numMirrors_no3 (w : World) (ra rb : NumR) (la lb : List Nat) (r0 : Raw w ra.A ra.n ra.c la) (r1 : Raw w rb.A rb.n rb.c lb) (h0 : ra.n ≤ 40) (h1 : rb.n ≤ 40) (f2 : mayB ra.s la = true) (f3 : mayB rb.s lb = false) :
    Calls Try.prog 7 #[.agg #[.bool ra.s, .slice ra.A ra.n ra.c], .agg #[.bool rb.s, .slice rb.A rb.n rb.c]] w fun e w' => e = .returned (.bool true) ∧ Below w.heap.size w w' := by
  have K0 : Env w [] [] w := ⟨Below.refl _ _, fun r hr => by simp at hr, fun r hr => by simp at hr, fun x hx => by simp at hx⟩
  have K := ((K0.new ra).new rb)
  simp only [World.size_alloc] at K
  clear K0
  have f0 : decide (40 < ra.n) = false := by rw [decide_eq_false_iff_not]; omega
  have f1 : decide (40 < rb.n) = false := by rw [decide_eq_false_iff_not]; omega
  go_enter Try.func7, Try.ntmps7
  go_wp2_with fail
  obtain ⟨p, hp⟩ : ∃ p, p = w.heap.size := ⟨_, rfl⟩
  obtain ⟨q, hq⟩ : ∃ q, q = w.heap.size + 1 := ⟨_, rfl⟩
  generalize ((w.alloc (.cells #[.bool ra.s, .slice ra.A ra.n ra.c] 24)).alloc (.cells #[.bool rb.s, .slice rb.A rb.n rb.c] 24)) = W at *
  rw [← hq, ← hp] at K ⊢
  clear hp hq
  have c0a := K.c0 (g := q) (r := rb) (by simp)
  have c0b := K.c1 (g := q) (r := rb) (by simp)
  have c1a := K.c0 (g := p) (r := ra) (by simp)
  have c1b := K.c1 (g := p) (r := ra) (by simp)
  refine (great_any _ ra.s ra.A ra.n ra.c).mono ?_
  rintro e wn ⟨rfl, hbn⟩
  replace K := K.below hbn
  clear c0a c0b c1a c1b
  have c0a := K.c0 (g := q) (r := rb) (by simp)
  have c0b := K.c1 (g := q) (r := rb) (by simp)
  have c1a := K.c0 (g := p) (r := ra) (by simp)
  have c1b := K.c1 (g := p) (r := ra) (by simp)
  go_wp2_with fail
  refine (great_any _ rb.s rb.A rb.n rb.c).mono ?_
  rintro e wn ⟨rfl, hbn⟩
  replace K := K.below hbn
  clear c0a c0b c1a c1b
  have c0a := K.c0 (g := q) (r := rb) (by simp)
  have c0b := K.c1 (g := q) (r := rb) (by simp)
  have c1a := K.c0 (g := p) (r := ra) (by simp)
  have c1b := K.c1 (g := p) (r := ra) (by simp)
  go_wp2_with fail
  refine (may_b _ ra.s ra.A ra.n ra.c la (r0.below K.bl)).mono ?_
  rintro e wn ⟨rfl, hbn⟩
  replace K := K.below hbn
  clear c0a c0b c1a c1b
  have c0a := K.c0 (g := q) (r := rb) (by simp)
  have c0b := K.c1 (g := q) (r := rb) (by simp)
  have c1a := K.c0 (g := p) (r := ra) (by simp)
  have c1b := K.c1 (g := p) (r := ra) (by simp)
  go_wp2_with fail
  refine (may_b _ rb.s rb.A rb.n rb.c lb (r1.below K.bl)).mono ?_
  rintro e wn ⟨rfl, hbn⟩
  replace K := K.below hbn
  clear c0a c0b c1a c1b
  have c0a := K.c0 (g := q) (r := rb) (by simp)
  have c0b := K.c1 (g := q) (r := rb) (by simp)
  have c1a := K.c0 (g := p) (r := ra) (by simp)
  have c1b := K.c1 (g := p) (r := ra) (by simp)
  go_wp2_with fail
  refine (awake_any _).mono ?_
  rintro e wn ⟨rfl, hbn⟩
  go_wp2
  go_ret
  exact ⟨rfl, (K.below hbn).bl⟩

theorem nt_of_raw {w : World} {g : Bool} {A : Option Addr} {n c : Nat} {l : List Nat} (h : Raw w A n c l) (hm : mayB g l = true) : Nt w ⟨g, A, n, c, sgn g (Lm.val l)⟩ :=
  ⟨nm_of_raw h hm, top_of_may h.1.2.2.1 hm⟩

theorem numMirrors_walk (w : World) (g g' : Bool) (A B : Option Addr) (n c m d : Nat) (l k : List Nat) (h : Raw w A n c l) (h' : Raw w B m d k) :
    Calls Try.prog 7 #[.agg #[.bool g, .slice A n c], .agg #[.bool g', .slice B m d]] w fun e w' => e = .returned (.bool true) ∧ Below w.heap.size w w' := by
  by_cases h1 : 40 < n
  · exact numMirrors_no0 w ⟨g, A, n, c, 0⟩ ⟨g', B, m, d, 0⟩ l k h h' h1
  · by_cases h2 : 40 < m
    · exact numMirrors_no1 w ⟨g, A, n, c, 0⟩ ⟨g', B, m, d, 0⟩ l k h h' (Nat.le_of_not_lt h1) h2
    · cases ha : mayB g l with
      | false => exact numMirrors_no2 w ⟨g, A, n, c, 0⟩ ⟨g', B, m, d, 0⟩ l k h h' (Nat.le_of_not_lt h1) (Nat.le_of_not_lt h2) ha
      | true =>
        cases hb : mayB g' k with
        | false => exact numMirrors_no3 w ⟨g, A, n, c, 0⟩ ⟨g', B, m, d, 0⟩ l k h h' (Nat.le_of_not_lt h1) (Nat.le_of_not_lt h2) ha hb
        | true => exact numMirrors_yes w ⟨g, A, n, c, sgn g (Lm.val l)⟩ ⟨g', B, m, d, sgn g' (Lm.val k)⟩ (nt_of_raw h ha) (nt_of_raw h' hb)

end Go.Proofs.Ytlmojomnebjhaaa
