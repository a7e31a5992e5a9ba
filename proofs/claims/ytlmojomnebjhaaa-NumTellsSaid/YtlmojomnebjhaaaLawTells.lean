/-
  beehivelaw1.NumTells RETURNS TRUE AT NUMBERS OF AT MOST 40 LIMBS: its walk.
-/
import Derived.Test.YtlmojomnebjhaaaT3L
namespace Go.Proofs.Ytlmojomnebjhaaa
open Go.RowKit

theorem cmp_x (w : World) (rx ry ra rb : NumR) (la lb : List Nat) (hx : Hid (rx.s = ra.s)) (hy : Hid (ry.s = rb.s)) (h : Raw w rx.A rx.n rx.c la) (h' : Raw w ry.A ry.n ry.c lb) :
    Calls Try.prog 21 #[.agg #[.bool rx.s, .slice rx.A rx.n rx.c], .agg #[.bool ry.s, .slice ry.A ry.n ry.c]] w (IntPost w (cmpR ra.s rb.s la lb)) := by
  rw [← hx.out, ← hy.out]
  exact cmp_raw w rx.s ry.s rx.A ry.A rx.n rx.c ry.n ry.c la lb h h'
theorem may_x (w : World) (rx ra : NumR) (la : List Nat) (hx : Hid (rx.s = ra.s)) (h : Raw w rx.A rx.n rx.c la) :
    Calls Try.prog 24 #[.agg #[.bool rx.s, .slice rx.A rx.n rx.c]] w fun e w' => e = .returned (.bool (mayB ra.s la)) ∧ Below w.heap.size w w' := by
  rw [← hx.out]
  exact may_b w rx.s rx.A rx.n rx.c la h

set_option maxRecDepth 100000 in
set_option maxHeartbeats 8000000 in
theorem numTells_yes (w : World) (ra rb : NumR) (la lb : List Nat) (z : Int) (hRa : Raw w ra.A ra.n ra.c la) (hRb : Raw w rb.A rb.n rb.c lb) (na : ra.n ≤ 40) (nb : rb.n ≤ 40) (hz1 : -9223372036854775808 ≤ z) (hz2 : z ≤ 9223372036854775807) :
    Calls Try.prog 3 #[.agg #[.bool ra.s, .slice ra.A ra.n ra.c], .agg #[.bool rb.s, .slice rb.A rb.n rb.c], .int .i64 z] w fun e w' => e = .returned (.bool true) ∧ Below w.heap.size w w' := by
  have K0 : Env w [] [] w := ⟨Below.refl _ _, fun r hr => by simp at hr, fun r hr => by simp at hr, fun x hx => by simp at hx⟩
  have K := (K0.new ra).new rb
  simp only [World.size_alloc] at K
  have f1 : decide (40 < ra.n) = false := by rw [decide_eq_false_iff_not]; omega
  have f2 : decide (40 < rb.n) = false := by rw [decide_eq_false_iff_not]; omega
  have hsa := Lib.hid hRa.1.2.2.1
  clear K0
  go_enter Try.func3, Try.ntmps3
  go_wp2_with fail
  obtain ⟨p, hp⟩ : ∃ p, p = w.heap.size := ⟨_, rfl⟩
  obtain ⟨q, hq⟩ : ∃ q, q = w.heap.size + 1 := ⟨_, rfl⟩
  generalize ((w.alloc (.cells #[.bool ra.s, .slice ra.A ra.n ra.c] 24)).alloc (.cells #[.bool rb.s, .slice rb.A rb.n rb.c] 24)) = W at *
  rw [← hq, ← hp] at K ⊢
  clear hp hq
  have c0a := K.c0 (g := q) (r := rb) (by simp)
  have c0b := K.c1 (g := q) (r := rb) (by simp)
  have c1a := K.c0 (g := p) (r := ra) (by simp)
  have c1b := K.c1 (g := p) (r := ra) (by simp)
  refine (great_any _ ra.s ra.A ra.n ra.c).mono ?_
  rintro e wn ⟨rfl, hbn⟩
  replace K := K.below hbn
  clear c0a c0b c1a c1b
  have c0a := K.c0 (g := q) (r := rb) (by simp)
  have c0b := K.c1 (g := q) (r := rb) (by simp)
  have c1a := K.c0 (g := p) (r := ra) (by simp)
  have c1b := K.c1 (g := p) (r := ra) (by simp)
  go_wp2_with fail
  refine (great_any _ rb.s rb.A rb.n rb.c).mono ?_
  rintro e wn ⟨rfl, hbn⟩
  replace K := K.below hbn
  clear c0a c0b c1a c1b
  have c0a := K.c0 (g := q) (r := rb) (by simp)
  have c0b := K.c1 (g := q) (r := rb) (by simp)
  have c1a := K.c0 (g := p) (r := ra) (by simp)
  have c1b := K.c1 (g := p) (r := ra) (by simp)
  go_upto_region 3 with fail
  go_cut [7, 8] (fun t1 t2 wx => ∃ (px py gx gy : Nat) (rx ry : NumR), t1 = .pointer (some ⟨px, 0, none⟩) ∧ t2 = .pointer (some ⟨py, 0, none⟩) ∧ (rx.s = ra.s ∧ ry.s = rb.s ∧ (rx.A = some ⟨gx, 0, none⟩ ∧ rx.n = ra.n ∧ rx.c = ra.n + 3) ∧ (ry.A = some ⟨gy, 0, none⟩ ∧ ry.n = rb.n ∧ ry.c = rb.n + 3)) ∧ Env w [] [(py, ry), (px, rx), (q, rb), (p, ra)] wx ∧ Tl w gx ra.n gy rb.n la lb [] wx)
  case first =>
   as_aux_lemma =>
    have KA := K.drew
    have pl := K.lt (g := p) (r := ra) (by simp)
    have ql := K.lt (g := q) (r := rb) (by simp)
    have wl := K.bl.size
    go_region_held3 (fun w' => w'.cell? ⟨q, 0, none⟩ = some (.bool rb.s) ∧ w'.cell? ⟨q, 1, none⟩ = some (.slice rb.A rb.n rb.c) ∧ w'.cell? ⟨p, 0, none⟩ = some (.bool ra.s) ∧ w'.cell? ⟨p, 1, none⟩ = some (.slice ra.A ra.n ra.c))
      (first | with_reducible exact ⟨K.c0 (g := q) (r := rb) (by simp), K.c1 (g := q) (r := rb) (by simp), K.c0 (g := p) (r := ra) (by simp), K.c1 (g := p) (r := ra) (by simp)⟩ | with_reducible exact ⟨K.drew.c0 (g := q) (r := rb) (by simp), K.drew.c1 (g := q) (r := rb) (by simp), K.drew.c0 (g := p) (r := ra) (by simp), K.drew.c1 (g := p) (r := ra) (by simp)⟩ | with_reducible exact ⟨(K.alloc _).drew.c0 (g := q) (r := rb) (by simp), (K.alloc _).drew.c1 (g := q) (r := rb) (by simp), (K.alloc _).drew.c0 (g := p) (r := ra) (by simp), (K.alloc _).drew.c1 (g := p) (r := ra) (by simp)⟩ | with_reducible exact ⟨((K.alloc _).alloc _).drew.c0 (g := q) (r := rb) (by simp), ((K.alloc _).alloc _).drew.c1 (g := q) (r := rb) (by simp), ((K.alloc _).alloc _).drew.c0 (g := p) (r := ra) (by simp), ((K.alloc _).alloc _).drew.c1 (g := p) (r := ra) (by simp)⟩ | with_reducible exact ⟨KA.c0 (g := q) (r := rb) (by simp), KA.c1 (g := q) (r := rb) (by simp), KA.c0 (g := p) (r := ra) (by simp), KA.c1 (g := p) (r := ra) (by simp)⟩ | with_reducible exact ⟨(KA.alloc _).c0 (g := q) (r := rb) (by simp), (KA.alloc _).c1 (g := q) (r := rb) (by simp), (KA.alloc _).c0 (g := p) (r := ra) (by simp), (KA.alloc _).c1 (g := p) (r := ra) (by simp)⟩ | with_reducible exact ⟨((KA.alloc _).alloc _).c0 (g := q) (r := rb) (by simp), ((KA.alloc _).alloc _).c1 (g := q) (r := rb) (by simp), ((KA.alloc _).alloc _).c0 (g := p) (r := ra) (by simp), ((KA.alloc _).alloc _).c1 (g := p) (r := ra) (by simp)⟩ | with_reducible exact ⟨((KA.store0 B0 hgB0 hnB0 0 _).store0 (B0.set0 _) hgB0 hnB0 1 _).c0 (g := q) (r := rb) (by simp), ((KA.store0 B0 hgB0 hnB0 0 _).store0 (B0.set0 _) hgB0 hnB0 1 _).c1 (g := q) (r := rb) (by simp), ((KA.store0 B0 hgB0 hnB0 0 _).store0 (B0.set0 _) hgB0 hnB0 1 _).c0 (g := p) (r := ra) (by simp), ((KA.store0 B0 hgB0 hnB0 0 _).store0 (B0.set0 _) hgB0 hnB0 1 _).c1 (g := p) (r := ra) (by simp)⟩ | with_reducible exact ⟨(((KA.store0 B0 hgB0 hnB0 0 _).store0 (B0.set0 _) hgB0 hnB0 1 _).alloc _).c0 (g := q) (r := rb) (by simp), (((KA.store0 B0 hgB0 hnB0 0 _).store0 (B0.set0 _) hgB0 hnB0 1 _).alloc _).c1 (g := q) (r := rb) (by simp), (((KA.store0 B0 hgB0 hnB0 0 _).store0 (B0.set0 _) hgB0 hnB0 1 _).alloc _).c0 (g := p) (r := ra) (by simp), (((KA.store0 B0 hgB0 hnB0 0 _).store0 (B0.set0 _) hgB0 hnB0 1 _).alloc _).c1 (g := p) (r := ra) (by simp)⟩ | with_reducible exact ⟨((KA.store0 B1 hgB1 hnB1 0 _).store0 (B1.set0 _) hgB1 hnB1 1 _).c0 (g := q) (r := rb) (by simp), ((KA.store0 B1 hgB1 hnB1 0 _).store0 (B1.set0 _) hgB1 hnB1 1 _).c1 (g := q) (r := rb) (by simp), ((KA.store0 B1 hgB1 hnB1 0 _).store0 (B1.set0 _) hgB1 hnB1 1 _).c0 (g := p) (r := ra) (by simp), ((KA.store0 B1 hgB1 hnB1 0 _).store0 (B1.set0 _) hgB1 hnB1 1 _).c1 (g := p) (r := ra) (by simp)⟩ | with_reducible exact ⟨(((KA.store0 B1 hgB1 hnB1 0 _).store0 (B1.set0 _) hgB1 hnB1 1 _).alloc _).c0 (g := q) (r := rb) (by simp), (((KA.store0 B1 hgB1 hnB1 0 _).store0 (B1.set0 _) hgB1 hnB1 1 _).alloc _).c1 (g := q) (r := rb) (by simp), (((KA.store0 B1 hgB1 hnB1 0 _).store0 (B1.set0 _) hgB1 hnB1 1 _).alloc _).c0 (g := p) (r := ra) (by simp), (((KA.store0 B1 hgB1 hnB1 0 _).store0 (B1.set0 _) hgB1 hnB1 1 _).alloc _).c1 (g := p) (r := ra) (by simp)⟩ | with_reducible exact ⟨((KA.store0 C0 hgC0 hnC0 0 _).store0 (C0.set0 _) hgC0 hnC0 1 _).c0 (g := q) (r := rb) (by simp), ((KA.store0 C0 hgC0 hnC0 0 _).store0 (C0.set0 _) hgC0 hnC0 1 _).c1 (g := q) (r := rb) (by simp), ((KA.store0 C0 hgC0 hnC0 0 _).store0 (C0.set0 _) hgC0 hnC0 1 _).c0 (g := p) (r := ra) (by simp), ((KA.store0 C0 hgC0 hnC0 0 _).store0 (C0.set0 _) hgC0 hnC0 1 _).c1 (g := p) (r := ra) (by simp)⟩ | with_reducible exact ⟨(((KA.store0 C0 hgC0 hnC0 0 _).store0 (C0.set0 _) hgC0 hnC0 1 _).alloc _).c0 (g := q) (r := rb) (by simp), (((KA.store0 C0 hgC0 hnC0 0 _).store0 (C0.set0 _) hgC0 hnC0 1 _).alloc _).c1 (g := q) (r := rb) (by simp), (((KA.store0 C0 hgC0 hnC0 0 _).store0 (C0.set0 _) hgC0 hnC0 1 _).alloc _).c0 (g := p) (r := ra) (by simp), (((KA.store0 C0 hgC0 hnC0 0 _).store0 (C0.set0 _) hgC0 hnC0 1 _).alloc _).c1 (g := p) (r := ra) (by simp)⟩ | with_reducible exact ⟨((KA.store0 C1 hgC1 hnC1 0 _).store0 (C1.set0 _) hgC1 hnC1 1 _).c0 (g := q) (r := rb) (by simp), ((KA.store0 C1 hgC1 hnC1 0 _).store0 (C1.set0 _) hgC1 hnC1 1 _).c1 (g := q) (r := rb) (by simp), ((KA.store0 C1 hgC1 hnC1 0 _).store0 (C1.set0 _) hgC1 hnC1 1 _).c0 (g := p) (r := ra) (by simp), ((KA.store0 C1 hgC1 hnC1 0 _).store0 (C1.set0 _) hgC1 hnC1 1 _).c1 (g := p) (r := ra) (by simp)⟩ | with_reducible exact ⟨(((KA.store0 C1 hgC1 hnC1 0 _).store0 (C1.set0 _) hgC1 hnC1 1 _).alloc _).c0 (g := q) (r := rb) (by simp), (((KA.store0 C1 hgC1 hnC1 0 _).store0 (C1.set0 _) hgC1 hnC1 1 _).alloc _).c1 (g := q) (r := rb) (by simp), (((KA.store0 C1 hgC1 hnC1 0 _).store0 (C1.set0 _) hgC1 hnC1 1 _).alloc _).c0 (g := p) (r := ra) (by simp), (((KA.store0 C1 hgC1 hnC1 0 _).store0 (C1.set0 _) hgC1 hnC1 1 _).alloc _).c1 (g := p) (r := ra) (by simp)⟩ | with_reducible exact ⟨((((KA.store0 B0 hgB0 hnB0 0 _).store0 (B0.set0 _) hgB0 hnB0 1 _).store0 ((Box.far B1 (p := ⟨_, 0, none⟩) neB0B1 _).far (p := ⟨_, 1, none⟩) neB0B1 _) hgB1 hnB1 0 _).store0 (((Box.far B1 (p := ⟨_, 0, none⟩) neB0B1 _).far (p := ⟨_, 1, none⟩) neB0B1 _).set0 _) hgB1 hnB1 1 _).c0 (g := q) (r := rb) (by simp), ((((KA.store0 B0 hgB0 hnB0 0 _).store0 (B0.set0 _) hgB0 hnB0 1 _).store0 ((Box.far B1 (p := ⟨_, 0, none⟩) neB0B1 _).far (p := ⟨_, 1, none⟩) neB0B1 _) hgB1 hnB1 0 _).store0 (((Box.far B1 (p := ⟨_, 0, none⟩) neB0B1 _).far (p := ⟨_, 1, none⟩) neB0B1 _).set0 _) hgB1 hnB1 1 _).c1 (g := q) (r := rb) (by simp), ((((KA.store0 B0 hgB0 hnB0 0 _).store0 (B0.set0 _) hgB0 hnB0 1 _).store0 ((Box.far B1 (p := ⟨_, 0, none⟩) neB0B1 _).far (p := ⟨_, 1, none⟩) neB0B1 _) hgB1 hnB1 0 _).store0 (((Box.far B1 (p := ⟨_, 0, none⟩) neB0B1 _).far (p := ⟨_, 1, none⟩) neB0B1 _).set0 _) hgB1 hnB1 1 _).c0 (g := p) (r := ra) (by simp), ((((KA.store0 B0 hgB0 hnB0 0 _).store0 (B0.set0 _) hgB0 hnB0 1 _).store0 ((Box.far B1 (p := ⟨_, 0, none⟩) neB0B1 _).far (p := ⟨_, 1, none⟩) neB0B1 _) hgB1 hnB1 0 _).store0 (((Box.far B1 (p := ⟨_, 0, none⟩) neB0B1 _).far (p := ⟨_, 1, none⟩) neB0B1 _).set0 _) hgB1 hnB1 1 _).c1 (g := p) (r := ra) (by simp)⟩ | with_reducible exact ⟨((((KA.store0 B1 hgB1 hnB1 0 _).store0 (B1.set0 _) hgB1 hnB1 1 _).store0 ((Box.far B0 (p := ⟨_, 0, none⟩) neB1B0 _).far (p := ⟨_, 1, none⟩) neB1B0 _) hgB0 hnB0 0 _).store0 (((Box.far B0 (p := ⟨_, 0, none⟩) neB1B0 _).far (p := ⟨_, 1, none⟩) neB1B0 _).set0 _) hgB0 hnB0 1 _).c0 (g := q) (r := rb) (by simp), ((((KA.store0 B1 hgB1 hnB1 0 _).store0 (B1.set0 _) hgB1 hnB1 1 _).store0 ((Box.far B0 (p := ⟨_, 0, none⟩) neB1B0 _).far (p := ⟨_, 1, none⟩) neB1B0 _) hgB0 hnB0 0 _).store0 (((Box.far B0 (p := ⟨_, 0, none⟩) neB1B0 _).far (p := ⟨_, 1, none⟩) neB1B0 _).set0 _) hgB0 hnB0 1 _).c1 (g := q) (r := rb) (by simp), ((((KA.store0 B1 hgB1 hnB1 0 _).store0 (B1.set0 _) hgB1 hnB1 1 _).store0 ((Box.far B0 (p := ⟨_, 0, none⟩) neB1B0 _).far (p := ⟨_, 1, none⟩) neB1B0 _) hgB0 hnB0 0 _).store0 (((Box.far B0 (p := ⟨_, 0, none⟩) neB1B0 _).far (p := ⟨_, 1, none⟩) neB1B0 _).set0 _) hgB0 hnB0 1 _).c0 (g := p) (r := ra) (by simp), ((((KA.store0 B1 hgB1 hnB1 0 _).store0 (B1.set0 _) hgB1 hnB1 1 _).store0 ((Box.far B0 (p := ⟨_, 0, none⟩) neB1B0 _).far (p := ⟨_, 1, none⟩) neB1B0 _) hgB0 hnB0 0 _).store0 (((Box.far B0 (p := ⟨_, 0, none⟩) neB1B0 _).far (p := ⟨_, 1, none⟩) neB1B0 _).set0 _) hgB0 hnB0 1 _).c1 (g := p) (r := ra) (by simp)⟩ | with_reducible exact ⟨((((KA.store0 B0 hgB0 hnB0 0 _).store0 (B0.set0 _) hgB0 hnB0 1 _).store0 ((Box.far C0 (p := ⟨_, 0, none⟩) neB0C0 _).far (p := ⟨_, 1, none⟩) neB0C0 _) hgC0 hnC0 0 _).store0 (((Box.far C0 (p := ⟨_, 0, none⟩) neB0C0 _).far (p := ⟨_, 1, none⟩) neB0C0 _).set0 _) hgC0 hnC0 1 _).c0 (g := q) (r := rb) (by simp), ((((KA.store0 B0 hgB0 hnB0 0 _).store0 (B0.set0 _) hgB0 hnB0 1 _).store0 ((Box.far C0 (p := ⟨_, 0, none⟩) neB0C0 _).far (p := ⟨_, 1, none⟩) neB0C0 _) hgC0 hnC0 0 _).store0 (((Box.far C0 (p := ⟨_, 0, none⟩) neB0C0 _).far (p := ⟨_, 1, none⟩) neB0C0 _).set0 _) hgC0 hnC0 1 _).c1 (g := q) (r := rb) (by simp), ((((KA.store0 B0 hgB0 hnB0 0 _).store0 (B0.set0 _) hgB0 hnB0 1 _).store0 ((Box.far C0 (p := ⟨_, 0, none⟩) neB0C0 _).far (p := ⟨_, 1, none⟩) neB0C0 _) hgC0 hnC0 0 _).store0 (((Box.far C0 (p := ⟨_, 0, none⟩) neB0C0 _).far (p := ⟨_, 1, none⟩) neB0C0 _).set0 _) hgC0 hnC0 1 _).c0 (g := p) (r := ra) (by simp), ((((KA.store0 B0 hgB0 hnB0 0 _).store0 (B0.set0 _) hgB0 hnB0 1 _).store0 ((Box.far C0 (p := ⟨_, 0, none⟩) neB0C0 _).far (p := ⟨_, 1, none⟩) neB0C0 _) hgC0 hnC0 0 _).store0 (((Box.far C0 (p := ⟨_, 0, none⟩) neB0C0 _).far (p := ⟨_, 1, none⟩) neB0C0 _).set0 _) hgC0 hnC0 1 _).c1 (g := p) (r := ra) (by simp)⟩ | with_reducible exact ⟨((((KA.store0 C0 hgC0 hnC0 0 _).store0 (C0.set0 _) hgC0 hnC0 1 _).store0 ((Box.far B0 (p := ⟨_, 0, none⟩) neC0B0 _).far (p := ⟨_, 1, none⟩) neC0B0 _) hgB0 hnB0 0 _).store0 (((Box.far B0 (p := ⟨_, 0, none⟩) neC0B0 _).far (p := ⟨_, 1, none⟩) neC0B0 _).set0 _) hgB0 hnB0 1 _).c0 (g := q) (r := rb) (by simp), ((((KA.store0 C0 hgC0 hnC0 0 _).store0 (C0.set0 _) hgC0 hnC0 1 _).store0 ((Box.far B0 (p := ⟨_, 0, none⟩) neC0B0 _).far (p := ⟨_, 1, none⟩) neC0B0 _) hgB0 hnB0 0 _).store0 (((Box.far B0 (p := ⟨_, 0, none⟩) neC0B0 _).far (p := ⟨_, 1, none⟩) neC0B0 _).set0 _) hgB0 hnB0 1 _).c1 (g := q) (r := rb) (by simp), ((((KA.store0 C0 hgC0 hnC0 0 _).store0 (C0.set0 _) hgC0 hnC0 1 _).store0 ((Box.far B0 (p := ⟨_, 0, none⟩) neC0B0 _).far (p := ⟨_, 1, none⟩) neC0B0 _) hgB0 hnB0 0 _).store0 (((Box.far B0 (p := ⟨_, 0, none⟩) neC0B0 _).far (p := ⟨_, 1, none⟩) neC0B0 _).set0 _) hgB0 hnB0 1 _).c0 (g := p) (r := ra) (by simp), ((((KA.store0 C0 hgC0 hnC0 0 _).store0 (C0.set0 _) hgC0 hnC0 1 _).store0 ((Box.far B0 (p := ⟨_, 0, none⟩) neC0B0 _).far (p := ⟨_, 1, none⟩) neC0B0 _) hgB0 hnB0 0 _).store0 (((Box.far B0 (p := ⟨_, 0, none⟩) neC0B0 _).far (p := ⟨_, 1, none⟩) neC0B0 _).set0 _) hgB0 hnB0 1 _).c1 (g := p) (r := ra) (by simp)⟩ | with_reducible exact ⟨((((KA.store0 C0 hgC0 hnC0 0 _).store0 (C0.set0 _) hgC0 hnC0 1 _).store0 ((Box.far C1 (p := ⟨_, 0, none⟩) neC0C1 _).far (p := ⟨_, 1, none⟩) neC0C1 _) hgC1 hnC1 0 _).store0 (((Box.far C1 (p := ⟨_, 0, none⟩) neC0C1 _).far (p := ⟨_, 1, none⟩) neC0C1 _).set0 _) hgC1 hnC1 1 _).c0 (g := q) (r := rb) (by simp), ((((KA.store0 C0 hgC0 hnC0 0 _).store0 (C0.set0 _) hgC0 hnC0 1 _).store0 ((Box.far C1 (p := ⟨_, 0, none⟩) neC0C1 _).far (p := ⟨_, 1, none⟩) neC0C1 _) hgC1 hnC1 0 _).store0 (((Box.far C1 (p := ⟨_, 0, none⟩) neC0C1 _).far (p := ⟨_, 1, none⟩) neC0C1 _).set0 _) hgC1 hnC1 1 _).c1 (g := q) (r := rb) (by simp), ((((KA.store0 C0 hgC0 hnC0 0 _).store0 (C0.set0 _) hgC0 hnC0 1 _).store0 ((Box.far C1 (p := ⟨_, 0, none⟩) neC0C1 _).far (p := ⟨_, 1, none⟩) neC0C1 _) hgC1 hnC1 0 _).store0 (((Box.far C1 (p := ⟨_, 0, none⟩) neC0C1 _).far (p := ⟨_, 1, none⟩) neC0C1 _).set0 _) hgC1 hnC1 1 _).c0 (g := p) (r := ra) (by simp), ((((KA.store0 C0 hgC0 hnC0 0 _).store0 (C0.set0 _) hgC0 hnC0 1 _).store0 ((Box.far C1 (p := ⟨_, 0, none⟩) neC0C1 _).far (p := ⟨_, 1, none⟩) neC0C1 _) hgC1 hnC1 0 _).store0 (((Box.far C1 (p := ⟨_, 0, none⟩) neC0C1 _).far (p := ⟨_, 1, none⟩) neC0C1 _).set0 _) hgC1 hnC1 1 _).c1 (g := p) (r := ra) (by simp)⟩ | with_reducible exact ⟨((((KA.store0 C1 hgC1 hnC1 0 _).store0 (C1.set0 _) hgC1 hnC1 1 _).store0 ((Box.far C0 (p := ⟨_, 0, none⟩) neC1C0 _).far (p := ⟨_, 1, none⟩) neC1C0 _) hgC0 hnC0 0 _).store0 (((Box.far C0 (p := ⟨_, 0, none⟩) neC1C0 _).far (p := ⟨_, 1, none⟩) neC1C0 _).set0 _) hgC0 hnC0 1 _).c0 (g := q) (r := rb) (by simp), ((((KA.store0 C1 hgC1 hnC1 0 _).store0 (C1.set0 _) hgC1 hnC1 1 _).store0 ((Box.far C0 (p := ⟨_, 0, none⟩) neC1C0 _).far (p := ⟨_, 1, none⟩) neC1C0 _) hgC0 hnC0 0 _).store0 (((Box.far C0 (p := ⟨_, 0, none⟩) neC1C0 _).far (p := ⟨_, 1, none⟩) neC1C0 _).set0 _) hgC0 hnC0 1 _).c1 (g := q) (r := rb) (by simp), ((((KA.store0 C1 hgC1 hnC1 0 _).store0 (C1.set0 _) hgC1 hnC1 1 _).store0 ((Box.far C0 (p := ⟨_, 0, none⟩) neC1C0 _).far (p := ⟨_, 1, none⟩) neC1C0 _) hgC0 hnC0 0 _).store0 (((Box.far C0 (p := ⟨_, 0, none⟩) neC1C0 _).far (p := ⟨_, 1, none⟩) neC1C0 _).set0 _) hgC0 hnC0 1 _).c0 (g := p) (r := ra) (by simp), ((((KA.store0 C1 hgC1 hnC1 0 _).store0 (C1.set0 _) hgC1 hnC1 1 _).store0 ((Box.far C0 (p := ⟨_, 0, none⟩) neC1C0 _).far (p := ⟨_, 1, none⟩) neC1C0 _) hgC0 hnC0 0 _).store0 (((Box.far C0 (p := ⟨_, 0, none⟩) neC1C0 _).far (p := ⟨_, 1, none⟩) neC1C0 _).set0 _) hgC0 hnC0 1 _).c1 (g := p) (r := ra) (by simp)⟩ | fail)
      (first
        | (go_at_call_of 10 (Value.slice ra.A ra.n ra.c); refine (lend_any wn.drew ra.A ra.n ra.c la (hRa.below K.drew.bl) (by omega)).mono ?_; rintro e v1 ⟨gx, rfl, lx, gx0, hb1, tx⟩; have sz1 : wn.heap.size ≤ v1.heap.size := (by first | exact hb1.size | (have h := hb1.size; simp at h; omega)); have KA := K.drew.below hb1)
        | (go_at_call_of 10 (Value.slice ra.A ra.n ra.c); refine (lend_any (wn.alloc (.cells #[.bool false, .slice none 0 0] 24)).drew ra.A ra.n ra.c la (hRa.below (K.alloc (.cells #[.bool false, .slice none 0 0] 24)).drew.bl) (by omega)).mono ?_; rintro e v1 ⟨gx, rfl, lx, gx0, hb1, tx⟩; have ltB0 : wn.heap.size < v1.heap.size := (by have h := hb1.size; simp at h; omega); have B0 : Box v1 wn.heap.size (.bool false) (.slice none 0 0) := Box.below' (w := (wn.alloc (.cells #[.bool false, .slice none 0 0] 24)).drew) (Box.drew (Box.new wn _ _)) hb1; have sz1 : wn.heap.size ≤ v1.heap.size := (by first | exact hb1.size | (have h := hb1.size; simp at h; omega)); have KA := (K.alloc (.cells #[.bool false, .slice none 0 0] 24)).drew.below hb1)
        | (go_at_call_of 10 (Value.slice ra.A ra.n ra.c); refine (lend_any ((wn.alloc (.cells #[.bool false, .slice none 0 0] 24)).alloc (.cells #[.bool false, .slice none 0 0] 24)).drew ra.A ra.n ra.c la (hRa.below ((K.alloc (.cells #[.bool false, .slice none 0 0] 24)).alloc (.cells #[.bool false, .slice none 0 0] 24)).drew.bl) (by omega)).mono ?_; rintro e v1 ⟨gx, rfl, lx, gx0, hb1, tx⟩; have ltB0 : wn.heap.size < v1.heap.size := (by have h := hb1.size; simp at h; omega); have B0 : Box v1 wn.heap.size (.bool false) (.slice none 0 0) := Box.below' (w := ((wn.alloc (.cells #[.bool false, .slice none 0 0] 24)).alloc (.cells #[.bool false, .slice none 0 0] 24)).drew) (Box.drew (Box.alloc (Box.new wn _ _) _)) hb1; have B1 : Box v1 (wn.heap.size + 1) (.bool false) (.slice none 0 0) := Box.below' (w := ((wn.alloc (.cells #[.bool false, .slice none 0 0] 24)).alloc (.cells #[.bool false, .slice none 0 0] 24)).drew) (Box.drew (by have h := Box.new (wn.alloc (.cells #[.bool false, .slice none 0 0] 24)) (.bool false) (.slice none 0 0); simpa using h)) hb1; have sz1 : wn.heap.size ≤ v1.heap.size := (by first | exact hb1.size | (have h := hb1.size; simp at h; omega)); have KA := ((K.alloc (.cells #[.bool false, .slice none 0 0] 24)).alloc (.cells #[.bool false, .slice none 0 0] 24)).drew.below hb1)
        | (go_at_call_of 10 (Value.slice rb.A rb.n rb.c); refine (lend_any v1 rb.A rb.n rb.c lb (hRb.below KA.bl) (by omega)).mono ?_; rintro e v2 ⟨gy, rfl, ly, gy0, hb2, ty⟩; have hB2 := hb2; have lx2 := lx.below hB2; have tx2 := typ_below tx hB2; (try have B0 := B0.below' hB2); (try have B1 := B1.below' hB2); (try (have q0 := B0.c0; have q1 := B0.c1; have q2 := B0.f0; have q3 := B0.f1; have q4 := B0.lt)); (try (have q5 := B1.c0; have q6 := B1.c1; have q7 := B1.f0; have q8 := B1.f1; have q9 := B1.lt)); (try (have u0 := C0.c0; have u1 := C0.c1; have u2 := C0.f0; have u3 := C0.f1; have u4 := C0.lt)); (try (have u5 := C1.c0; have u6 := C1.c1; have u7 := C1.f0; have u8 := C1.f1; have u9 := C1.lt)); have sz2 : v1.heap.size ≤ v2.heap.size := (by first | exact hb2.size | (have h := hb2.size; simp at h; omega)); have KA := KA.below hb2; (try (have hgB0 : w.heap.size ≤ wn.heap.size := wl; have hnB0 : ∀ x ∈ [(q, rb), (p, ra)], x.1 ≠ wn.heap.size := fun x hx => (by have h := (K.bx x hx).lt; omega))); (try (have hgB1 : w.heap.size ≤ wn.heap.size + 1 := (by omega); have hnB1 : ∀ x ∈ [(q, rb), (p, ra)], x.1 ≠ wn.heap.size + 1 := fun x hx => (by have h := (K.bx x hx).lt; omega))); (try (have hgC0 : w.heap.size ≤ v1.heap.size := (by omega); have hnC0 : ∀ x ∈ [(q, rb), (p, ra)], x.1 ≠ v1.heap.size := fun x hx => (by have h := (K.bx x hx).lt; omega))); (try (have hgC1 : w.heap.size ≤ v1.heap.size + 1 := (by omega); have hnC1 : ∀ x ∈ [(q, rb), (p, ra)], x.1 ≠ v1.heap.size + 1 := fun x hx => (by have h := (K.bx x hx).lt; omega))); (try have neB0B1 : wn.heap.size + 1 ≠ wn.heap.size := (by omega)); (try have neB1B0 : wn.heap.size ≠ wn.heap.size + 1 := (by omega)); (try have neC0C1 : v1.heap.size + 1 ≠ v1.heap.size := (by omega)); (try have neC1C0 : v1.heap.size ≠ v1.heap.size + 1 := (by omega)); (try have neB0C0 : v1.heap.size ≠ wn.heap.size := (by have h := ltB0; omega)); (try have neC0B0 : wn.heap.size ≠ v1.heap.size := (by have h := ltB0; omega)))
        | (go_at_call_of 10 (Value.slice rb.A rb.n rb.c); have hA1 := ((Below.refl v1.heap.size v1).alloc (Nat.le_refl _) (.cells #[.bool false, .slice none 0 0] 24)); refine (lend_any (v1.alloc (.cells #[.bool false, .slice none 0 0] 24)) rb.A rb.n rb.c lb (hRb.below (KA.alloc (.cells #[.bool false, .slice none 0 0] 24)).bl) (by omega)).mono ?_; rintro e v2 ⟨gy, rfl, ly, gy0, hb2, ty⟩; have hB2 := hA1.trans (hb2.mono hA1.size); have lx2 := lx.below hB2; have tx2 := typ_below tx hB2; (try have B0 := B0.below' hB2); (try have B1 := B1.below' hB2); have C0 : Box v2 v1.heap.size (.bool false) (.slice none 0 0) := Box.below' (w := (v1.alloc (.cells #[.bool false, .slice none 0 0] 24))) (Box.new v1 _ _) hb2; (try (have q0 := B0.c0; have q1 := B0.c1; have q2 := B0.f0; have q3 := B0.f1; have q4 := B0.lt)); (try (have q5 := B1.c0; have q6 := B1.c1; have q7 := B1.f0; have q8 := B1.f1; have q9 := B1.lt)); (try (have u0 := C0.c0; have u1 := C0.c1; have u2 := C0.f0; have u3 := C0.f1; have u4 := C0.lt)); (try (have u5 := C1.c0; have u6 := C1.c1; have u7 := C1.f0; have u8 := C1.f1; have u9 := C1.lt)); have sz2 : v1.heap.size ≤ v2.heap.size := (by first | exact hb2.size | (have h := hb2.size; simp at h; omega)); have KA := (KA.alloc (.cells #[.bool false, .slice none 0 0] 24)).below hb2; (try (have hgB0 : w.heap.size ≤ wn.heap.size := wl; have hnB0 : ∀ x ∈ [(q, rb), (p, ra)], x.1 ≠ wn.heap.size := fun x hx => (by have h := (K.bx x hx).lt; omega))); (try (have hgB1 : w.heap.size ≤ wn.heap.size + 1 := (by omega); have hnB1 : ∀ x ∈ [(q, rb), (p, ra)], x.1 ≠ wn.heap.size + 1 := fun x hx => (by have h := (K.bx x hx).lt; omega))); (try (have hgC0 : w.heap.size ≤ v1.heap.size := (by omega); have hnC0 : ∀ x ∈ [(q, rb), (p, ra)], x.1 ≠ v1.heap.size := fun x hx => (by have h := (K.bx x hx).lt; omega))); (try (have hgC1 : w.heap.size ≤ v1.heap.size + 1 := (by omega); have hnC1 : ∀ x ∈ [(q, rb), (p, ra)], x.1 ≠ v1.heap.size + 1 := fun x hx => (by have h := (K.bx x hx).lt; omega))); (try have neB0B1 : wn.heap.size + 1 ≠ wn.heap.size := (by omega)); (try have neB1B0 : wn.heap.size ≠ wn.heap.size + 1 := (by omega)); (try have neC0C1 : v1.heap.size + 1 ≠ v1.heap.size := (by omega)); (try have neC1C0 : v1.heap.size ≠ v1.heap.size + 1 := (by omega)); (try have neB0C0 : v1.heap.size ≠ wn.heap.size := (by have h := ltB0; omega)); (try have neC0B0 : wn.heap.size ≠ v1.heap.size := (by have h := ltB0; omega)))
        | (go_at_call_of 10 (Value.slice rb.A rb.n rb.c); have hA1 := (((Below.refl v1.heap.size v1).alloc (Nat.le_refl _) (.cells #[.bool false, .slice none 0 0] 24)).alloc (by simp) (.cells #[.bool false, .slice none 0 0] 24)); refine (lend_any ((v1.alloc (.cells #[.bool false, .slice none 0 0] 24)).alloc (.cells #[.bool false, .slice none 0 0] 24)) rb.A rb.n rb.c lb (hRb.below ((KA.alloc (.cells #[.bool false, .slice none 0 0] 24)).alloc (.cells #[.bool false, .slice none 0 0] 24)).bl) (by omega)).mono ?_; rintro e v2 ⟨gy, rfl, ly, gy0, hb2, ty⟩; have hB2 := hA1.trans (hb2.mono hA1.size); have lx2 := lx.below hB2; have tx2 := typ_below tx hB2; (try have B0 := B0.below' hB2); (try have B1 := B1.below' hB2); have C0 : Box v2 v1.heap.size (.bool false) (.slice none 0 0) := Box.below' (w := ((v1.alloc (.cells #[.bool false, .slice none 0 0] 24)).alloc (.cells #[.bool false, .slice none 0 0] 24))) (Box.alloc (Box.new v1 _ _) _) hb2; have C1 : Box v2 (v1.heap.size + 1) (.bool false) (.slice none 0 0) := Box.below' (w := ((v1.alloc (.cells #[.bool false, .slice none 0 0] 24)).alloc (.cells #[.bool false, .slice none 0 0] 24))) (by have h := Box.new (v1.alloc (.cells #[.bool false, .slice none 0 0] 24)) (.bool false) (.slice none 0 0); simpa using h) hb2; (try (have q0 := B0.c0; have q1 := B0.c1; have q2 := B0.f0; have q3 := B0.f1; have q4 := B0.lt)); (try (have q5 := B1.c0; have q6 := B1.c1; have q7 := B1.f0; have q8 := B1.f1; have q9 := B1.lt)); (try (have u0 := C0.c0; have u1 := C0.c1; have u2 := C0.f0; have u3 := C0.f1; have u4 := C0.lt)); (try (have u5 := C1.c0; have u6 := C1.c1; have u7 := C1.f0; have u8 := C1.f1; have u9 := C1.lt)); have sz2 : v1.heap.size ≤ v2.heap.size := (by first | exact hb2.size | (have h := hb2.size; simp at h; omega)); have KA := ((KA.alloc (.cells #[.bool false, .slice none 0 0] 24)).alloc (.cells #[.bool false, .slice none 0 0] 24)).below hb2; (try (have hgB0 : w.heap.size ≤ wn.heap.size := wl; have hnB0 : ∀ x ∈ [(q, rb), (p, ra)], x.1 ≠ wn.heap.size := fun x hx => (by have h := (K.bx x hx).lt; omega))); (try (have hgB1 : w.heap.size ≤ wn.heap.size + 1 := (by omega); have hnB1 : ∀ x ∈ [(q, rb), (p, ra)], x.1 ≠ wn.heap.size + 1 := fun x hx => (by have h := (K.bx x hx).lt; omega))); (try (have hgC0 : w.heap.size ≤ v1.heap.size := (by omega); have hnC0 : ∀ x ∈ [(q, rb), (p, ra)], x.1 ≠ v1.heap.size := fun x hx => (by have h := (K.bx x hx).lt; omega))); (try (have hgC1 : w.heap.size ≤ v1.heap.size + 1 := (by omega); have hnC1 : ∀ x ∈ [(q, rb), (p, ra)], x.1 ≠ v1.heap.size + 1 := fun x hx => (by have h := (K.bx x hx).lt; omega))); (try have neB0B1 : wn.heap.size + 1 ≠ wn.heap.size := (by omega)); (try have neB1B0 : wn.heap.size ≠ wn.heap.size + 1 := (by omega)); (try have neC0C1 : v1.heap.size + 1 ≠ v1.heap.size := (by omega)); (try have neC1C0 : v1.heap.size ≠ v1.heap.size + 1 := (by omega)); (try have neB0C0 : v1.heap.size ≠ wn.heap.size := (by have h := ltB0; omega)); (try have neC0B0 : wn.heap.size ≠ v1.heap.size := (by have h := ltB0; omega))))
    all_goals (go_wp2_with fail; go_meet)
    all_goals first
      | with_reducible exact fin_goal (fin_nn KA (L2.mk lx2 ly tx2 ty))
      | with_reducible exact fin_goal (fin_nn' KA (L2.mk lx2 ly tx2 ty))
      | with_reducible exact fin_goal (fin_sx KA (L2.mk lx2 ly tx2 ty) B0 hgB0 hnB0)
      | with_reducible exact fin_goal (fin_sy KA (L2.mk lx2 ly tx2 ty) B0 hgB0 hnB0)
      | with_reducible exact fin_goal (fin_sx KA (L2.mk lx2 ly tx2 ty) C0 hgC0 hnC0)
      | with_reducible exact fin_goal (fin_sy KA (L2.mk lx2 ly tx2 ty) C0 hgC0 hnC0)
      | with_reducible exact fin_goal (fin_ss KA (L2.mk lx2 ly tx2 ty) B0 hgB0 hnB0 B1 hgB1 hnB1 neB0B1)
      | with_reducible exact fin_goal (fin_ss KA (L2.mk lx2 ly tx2 ty) B1 hgB1 hnB1 B0 hgB0 hnB0 neB1B0)
      | with_reducible exact fin_goal (fin_ss KA (L2.mk lx2 ly tx2 ty) B0 hgB0 hnB0 C0 hgC0 hnC0 neB0C0)
      | with_reducible exact fin_goal (fin_ss KA (L2.mk lx2 ly tx2 ty) C0 hgC0 hnC0 B0 hgB0 hnB0 neC0B0)
      | with_reducible exact fin_goal (fin_ss KA (L2.mk lx2 ly tx2 ty) C0 hgC0 hnC0 C1 hgC1 hnC1 neC0C1)
      | with_reducible exact fin_goal (fin_ss KA (L2.mk lx2 ly tx2 ty) C1 hgC1 hnC1 C0 hgC0 hnC0 neC1C0)
      | fail
  obtain ⟨px, py, gx, gy, rx, ry, rfl, rfl, ⟨hxs0, hys0, hX0, hY0⟩, KN, T⟩ := hcut
  have hxs := Lib.hid hxs0
  have hys := Lib.hid hys0
  have HX := Lib.hid hX0
  have HY := Lib.hid hY0
  clear c0a c0b c1a c1b
  clear K hxs0 hys0 hX0 hY0
  have K := KN
  clear KN
  have c0a := K.c0 (g := py) (r := ry) (by simp)
  have c0b := K.c1 (g := py) (r := ry) (by simp)
  have c1a := K.c0 (g := px) (r := rx) (by simp)
  have c1b := K.c1 (g := px) (r := rx) (by simp)
  have c2a := K.c0 (g := q) (r := rb) (by simp)
  have c2b := K.c1 (g := q) (r := rb) (by simp)
  have c3a := K.c0 (g := p) (r := ra) (by simp)
  have c3b := K.c1 (g := p) (r := ra) (by simp)
  as_aux_lemma =>
    go_upto_region 4 with fail
    go_cut [9, 10] (fun t1 t2 wx => ∃ (g1 : Nat) (rs : NumR), t1 = .pointer (some ⟨g1, 0, none⟩) ∧ t2 = .bool (addOk ra.s rb.s la lb) ∧ rs.z = addZ ra.s rb.s la lb ∧ Env w [rs] [(g1, rs), (py, ry), (px, rx), (q, rb), (p, ra)] wx ∧ Tl w gx ra.n gy rb.n la lb [rs] wx)
    case first =>
     as_aux_lemma =>
      go_wp2_with fail
      refine (add_raw _ rx.s ry.s rx.A ry.A rx.n rx.c ry.n ry.c la lb (T.rawX HX (by omega)) (T.rawY HY (by omega))).mono ?_
      rw [hxs.out, hys.out]
      rintro e wn hpost
      obtain ⟨r, rfl, hz, hn, hy, how, hof, hbn⟩ := hpost.retO (by exact addZ_top _ _ _ _)
      have Hz := Lib.hid hz
      clear hz hpost
      go_wp2
      go_meet
      exact ⟨_, r, rfl, rfl, Hz.out, ((K.below hbn).push hn hy).new r, (T.push hbn how hof K.bl.size).alloc _⟩
    obtain ⟨g1, rs, rfl, rfl, hzrs0, KN, TN⟩ := hcut
    have hzrs := Lib.hid hzrs0
    clear c0a c0b c1a c1b c2a c2b c3a c3b
    clear K T hzrs0
    have K := KN
    have T := TN
    clear KN TN
    have c0a := K.c0 (g := g1) (r := rs) (by simp)
    have c0b := K.c1 (g := g1) (r := rs) (by simp)
    have c1a := K.c0 (g := py) (r := ry) (by simp)
    have c1b := K.c1 (g := py) (r := ry) (by simp)
    have c2a := K.c0 (g := px) (r := rx) (by simp)
    have c2b := K.c1 (g := px) (r := rx) (by simp)
    have c3a := K.c0 (g := q) (r := rb) (by simp)
    have c3b := K.c1 (g := q) (r := rb) (by simp)
    have c4a := K.c0 (g := p) (r := ra) (by simp)
    have c4b := K.c1 (g := p) (r := ra) (by simp)
    go_upto_region 5 with fail
    go_cut [11, 12] (fun t1 t2 wx => ∃ (g2 : Nat) (rd : NumR), t1 = .pointer (some ⟨g2, 0, none⟩) ∧ t2 = .bool (subOk ra.s rb.s la lb) ∧ rd.z = subZ ra.s rb.s la lb ∧ Env w [rd, rs] [(g2, rd), (g1, rs), (py, ry), (px, rx), (q, rb), (p, ra)] wx ∧ Tl w gx ra.n gy rb.n la lb [rs, rd] wx)
    case first =>
     as_aux_lemma =>
      go_wp2_with fail
      refine (sub_raw _ rx.s ry.s rx.A ry.A rx.n rx.c ry.n ry.c la lb (T.rawX HX (by omega)) (T.rawY HY (by omega))).mono ?_
      rw [hxs.out, hys.out]
      rintro e wn hpost
      obtain ⟨r, rfl, hz, hn, hy, how, hof, hbn⟩ := hpost.retO (by exact subZ_top _ _ _ _)
      have Hz := Lib.hid hz
      clear hz hpost
      go_wp2
      go_meet
      exact ⟨_, r, rfl, rfl, Hz.out, ((K.below hbn).push hn hy).new r, (T.push hbn how hof K.bl.size).alloc _⟩
    obtain ⟨g2, rd, rfl, rfl, hzrd0, KN, TN⟩ := hcut
    have hzrd := Lib.hid hzrd0
    clear c0a c0b c1a c1b c2a c2b c3a c3b c4a c4b
    clear K T hzrd0
    have K := KN
    have T := TN
    clear KN TN
    have c0a := K.c0 (g := g2) (r := rd) (by simp)
    have c0b := K.c1 (g := g2) (r := rd) (by simp)
    have c1a := K.c0 (g := g1) (r := rs) (by simp)
    have c1b := K.c1 (g := g1) (r := rs) (by simp)
    have c2a := K.c0 (g := py) (r := ry) (by simp)
    have c2b := K.c1 (g := py) (r := ry) (by simp)
    have c3a := K.c0 (g := px) (r := rx) (by simp)
    have c3b := K.c1 (g := px) (r := rx) (by simp)
    have c4a := K.c0 (g := q) (r := rb) (by simp)
    have c4b := K.c1 (g := q) (r := rb) (by simp)
    have c5a := K.c0 (g := p) (r := ra) (by simp)
    have c5b := K.c1 (g := p) (r := ra) (by simp)
    go_upto_region 6 with fail
    go_cut [13, 14] (fun t1 t2 wx => ∃ (g3 : Nat) (rm : NumR), t1 = .pointer (some ⟨g3, 0, none⟩) ∧ t2 = .bool (mulOk ra.s rb.s la lb) ∧ rm.z = mulZ ra.s rb.s la lb ∧ Env w [rm, rd, rs] [(g3, rm), (g2, rd), (g1, rs), (py, ry), (px, rx), (q, rb), (p, ra)] wx ∧ Tl w gx ra.n gy rb.n la lb [rs, rd, rm] wx)
    case first =>
     as_aux_lemma =>
      go_wp2_with fail
      refine (mul_raw _ rx.s ry.s rx.A ry.A rx.n rx.c ry.n ry.c la lb (T.rawX HX (by omega)) (T.rawY HY (by omega))).mono ?_
      rw [hxs.out, hys.out]
      rintro e wn hpost
      obtain ⟨r, rfl, hz, hn, hy, how, hof, hbn⟩ := hpost.retO (by exact mulZ_top _ _ _ _)
      have Hz := Lib.hid hz
      clear hz hpost
      go_wp2
      go_meet
      exact ⟨_, r, rfl, rfl, Hz.out, ((K.below hbn).push hn hy).new r, (T.push hbn how hof K.bl.size).alloc _⟩
    obtain ⟨g3, rm, rfl, rfl, hzrm0, KN, TN⟩ := hcut
    have hzrm := Lib.hid hzrm0
    clear c0a c0b c1a c1b c2a c2b c3a c3b c4a c4b c5a c5b
    clear K T hzrm0
    have K := KN
    have T := TN
    clear KN TN
    have c0a := K.c0 (g := g3) (r := rm) (by simp)
    have c0b := K.c1 (g := g3) (r := rm) (by simp)
    have c1a := K.c0 (g := g2) (r := rd) (by simp)
    have c1b := K.c1 (g := g2) (r := rd) (by simp)
    have c2a := K.c0 (g := g1) (r := rs) (by simp)
    have c2b := K.c1 (g := g1) (r := rs) (by simp)
    have c3a := K.c0 (g := py) (r := ry) (by simp)
    have c3b := K.c1 (g := py) (r := ry) (by simp)
    have c4a := K.c0 (g := px) (r := rx) (by simp)
    have c4b := K.c1 (g := px) (r := rx) (by simp)
    have c5a := K.c0 (g := q) (r := rb) (by simp)
    have c5b := K.c1 (g := q) (r := rb) (by simp)
    have c6a := K.c0 (g := p) (r := ra) (by simp)
    have c6b := K.c1 (g := p) (r := ra) (by simp)
    go_upto_region 7 with fail
    go_cut [15, 16] (fun t1 t2 wx => ∃ (g4 : Nat) (rt : NumR), t1 = .pointer (some ⟨g4, 0, none⟩) ∧ t2 = .bool (addOk ra.s rb.s la lb) ∧ rt.z = addZ ra.s rb.s la lb ∧ Env w [rt, rm, rd, rs] [(g4, rt), (g3, rm), (g2, rd), (g1, rs), (py, ry), (px, rx), (q, rb), (p, ra)] wx ∧ Tl w gx ra.n gy rb.n la lb [rs, rd, rm] wx)
    case first =>
     as_aux_lemma =>
      go_wp2_with fail
      refine (refAdd_raw _ ra.s rb.s ra.A rb.A ra.n ra.c rb.n rb.c la lb (hRa.below K.bl) (hRb.below K.bl)).mono ?_
      skip
      rintro e wn hpost
      obtain ⟨r, rfl, hz, hn, hy, how, hof, hbn⟩ := hpost.retO (by exact addZ_top _ _ _ _)
      have Hz := Lib.hid hz
      clear hz hpost
      go_wp2
      go_meet
      exact ⟨_, r, rfl, rfl, Hz.out, ((K.below hbn).push hn hy).new r, (T.below hbn).alloc _⟩
    obtain ⟨g4, rt, rfl, rfl, hzrt0, KN, TN⟩ := hcut
    have hzrt := Lib.hid hzrt0
    clear c0a c0b c1a c1b c2a c2b c3a c3b c4a c4b c5a c5b c6a c6b
    clear K T hzrt0
    have K := KN
    have T := TN
    clear KN TN
    have c0a := K.c0 (g := g4) (r := rt) (by simp)
    have c0b := K.c1 (g := g4) (r := rt) (by simp)
    have c1a := K.c0 (g := g3) (r := rm) (by simp)
    have c1b := K.c1 (g := g3) (r := rm) (by simp)
    have c2a := K.c0 (g := g2) (r := rd) (by simp)
    have c2b := K.c1 (g := g2) (r := rd) (by simp)
    have c3a := K.c0 (g := g1) (r := rs) (by simp)
    have c3b := K.c1 (g := g1) (r := rs) (by simp)
    have c4a := K.c0 (g := py) (r := ry) (by simp)
    have c4b := K.c1 (g := py) (r := ry) (by simp)
    have c5a := K.c0 (g := px) (r := rx) (by simp)
    have c5b := K.c1 (g := px) (r := rx) (by simp)
    have c6a := K.c0 (g := q) (r := rb) (by simp)
    have c6b := K.c1 (g := q) (r := rb) (by simp)
    have c7a := K.c0 (g := p) (r := ra) (by simp)
    have c7b := K.c1 (g := p) (r := ra) (by simp)
    go_upto_region 8 with fail
    go_cut [17, 18] (fun t1 t2 wx => ∃ (g5 : Nat) (rv : NumR), t1 = .pointer (some ⟨g5, 0, none⟩) ∧ t2 = .bool (subOk ra.s rb.s la lb) ∧ rv.z = subZ ra.s rb.s la lb ∧ Env w [rv, rt, rm, rd, rs] [(g5, rv), (g4, rt), (g3, rm), (g2, rd), (g1, rs), (py, ry), (px, rx), (q, rb), (p, ra)] wx ∧ Tl w gx ra.n gy rb.n la lb [rs, rd, rm] wx)
    case first =>
     as_aux_lemma =>
      go_wp2_with fail
      refine (refSub_raw _ ra.s rb.s ra.A rb.A ra.n ra.c rb.n rb.c la lb (hRa.below K.bl) (hRb.below K.bl)).mono ?_
      skip
      rintro e wn hpost
      obtain ⟨r, rfl, hz, hn, hy, how, hof, hbn⟩ := hpost.retO (by exact subZ_top _ _ _ _)
      have Hz := Lib.hid hz
      clear hz hpost
      go_wp2
      go_meet
      exact ⟨_, r, rfl, rfl, Hz.out, ((K.below hbn).push hn hy).new r, (T.below hbn).alloc _⟩
    obtain ⟨g5, rv, rfl, rfl, hzrv0, KN, TN⟩ := hcut
    have hzrv := Lib.hid hzrv0
    clear c0a c0b c1a c1b c2a c2b c3a c3b c4a c4b c5a c5b c6a c6b c7a c7b
    clear K T hzrv0
    have K := KN
    have T := TN
    clear KN TN
    have c0a := K.c0 (g := g5) (r := rv) (by simp)
    have c0b := K.c1 (g := g5) (r := rv) (by simp)
    have c1a := K.c0 (g := g4) (r := rt) (by simp)
    have c1b := K.c1 (g := g4) (r := rt) (by simp)
    have c2a := K.c0 (g := g3) (r := rm) (by simp)
    have c2b := K.c1 (g := g3) (r := rm) (by simp)
    have c3a := K.c0 (g := g2) (r := rd) (by simp)
    have c3b := K.c1 (g := g2) (r := rd) (by simp)
    have c4a := K.c0 (g := g1) (r := rs) (by simp)
    have c4b := K.c1 (g := g1) (r := rs) (by simp)
    have c5a := K.c0 (g := py) (r := ry) (by simp)
    have c5b := K.c1 (g := py) (r := ry) (by simp)
    have c6a := K.c0 (g := px) (r := rx) (by simp)
    have c6b := K.c1 (g := px) (r := rx) (by simp)
    have c7a := K.c0 (g := q) (r := rb) (by simp)
    have c7b := K.c1 (g := q) (r := rb) (by simp)
    have c8a := K.c0 (g := p) (r := ra) (by simp)
    have c8b := K.c1 (g := p) (r := ra) (by simp)
    go_upto_region 9 with fail
    go_cut [19, 20] (fun t1 t2 wx => ∃ (g6 : Nat) (rz : NumR), t1 = .pointer (some ⟨g6, 0, none⟩) ∧ t2 = .bool (mulOk ra.s rb.s la lb) ∧ rz.z = mulZ ra.s rb.s la lb ∧ Env w [rz, rv, rt, rm, rd, rs] [(g6, rz), (g5, rv), (g4, rt), (g3, rm), (g2, rd), (g1, rs), (py, ry), (px, rx), (q, rb), (p, ra)] wx ∧ Tl w gx ra.n gy rb.n la lb [rs, rd, rm] wx)
    case first =>
     as_aux_lemma =>
      go_wp2_with fail
      refine (refMul_raw _ ra.s rb.s ra.A rb.A ra.n ra.c rb.n rb.c la lb (hRa.below K.bl) (hRb.below K.bl)).mono ?_
      skip
      rintro e wn hpost
      obtain ⟨r, rfl, hz, hn, hy, how, hof, hbn⟩ := hpost.retO (by exact mulZ_top _ _ _ _)
      have Hz := Lib.hid hz
      clear hz hpost
      go_wp2
      go_meet
      exact ⟨_, r, rfl, rfl, Hz.out, ((K.below hbn).push hn hy).new r, (T.below hbn).alloc _⟩
    obtain ⟨g6, rz, rfl, rfl, hzrz0, KN, TN⟩ := hcut
    have hzrz := Lib.hid hzrz0
    clear c0a c0b c1a c1b c2a c2b c3a c3b c4a c4b c5a c5b c6a c6b c7a c7b c8a c8b
    clear K T hzrz0
    have K := KN
    have T := TN
    clear KN TN
    have c0a := K.c0 (g := g6) (r := rz) (by simp)
    have c0b := K.c1 (g := g6) (r := rz) (by simp)
    have c1a := K.c0 (g := g5) (r := rv) (by simp)
    have c1b := K.c1 (g := g5) (r := rv) (by simp)
    have c2a := K.c0 (g := g4) (r := rt) (by simp)
    have c2b := K.c1 (g := g4) (r := rt) (by simp)
    have c3a := K.c0 (g := g3) (r := rm) (by simp)
    have c3b := K.c1 (g := g3) (r := rm) (by simp)
    have c4a := K.c0 (g := g2) (r := rd) (by simp)
    have c4b := K.c1 (g := g2) (r := rd) (by simp)
    have c5a := K.c0 (g := g1) (r := rs) (by simp)
    have c5b := K.c1 (g := g1) (r := rs) (by simp)
    have c6a := K.c0 (g := py) (r := ry) (by simp)
    have c6b := K.c1 (g := py) (r := ry) (by simp)
    have c7a := K.c0 (g := px) (r := rx) (by simp)
    have c7b := K.c1 (g := px) (r := rx) (by simp)
    have c8a := K.c0 (g := q) (r := rb) (by simp)
    have c8b := K.c1 (g := q) (r := rb) (by simp)
    have c9a := K.c0 (g := p) (r := ra) (by simp)
    have c9b := K.c1 (g := p) (r := ra) (by simp)
    as_aux_lemma =>
      go_upto_region 10 with fail
      go_cut [21, 22] (fun t1 t2 wx => t1 = .int .i64 (smZ ra.s la) ∧ t2 = .bool (smOk ra.s la) ∧ Env w [rz, rv, rt, rm, rd, rs] [(g6, rz), (g5, rv), (g4, rt), (g3, rm), (g2, rd), (g1, rs), (py, ry), (px, rx), (q, rb), (p, ra)] wx ∧ Tl w gx ra.n gy rb.n la lb [rs, rd, rm] wx)
      case first =>
       as_aux_lemma =>
        go_wp2_with fail
        refine (small_raw _ rx.s rx.A rx.n rx.c la (T.rawX HX (by omega))).mono ?_
        rw [hxs.out]
        rintro e wn ⟨rfl, hbn⟩
        go_wp2
        go_meet
        exact ⟨rfl, rfl, K.below hbn, T.below hbn⟩
      obtain ⟨rfl, rfl, KN, TN⟩ := hcut
      clear c0a c0b c1a c1b c2a c2b c3a c3b c4a c4b c5a c5b c6a c6b c7a c7b c8a c8b c9a c9b
      clear K T
      have K := KN
      have T := TN
      clear KN TN
      have c0a := K.c0 (g := g6) (r := rz) (by simp)
      have c0b := K.c1 (g := g6) (r := rz) (by simp)
      have c1a := K.c0 (g := g5) (r := rv) (by simp)
      have c1b := K.c1 (g := g5) (r := rv) (by simp)
      have c2a := K.c0 (g := g4) (r := rt) (by simp)
      have c2b := K.c1 (g := g4) (r := rt) (by simp)
      have c3a := K.c0 (g := g3) (r := rm) (by simp)
      have c3b := K.c1 (g := g3) (r := rm) (by simp)
      have c4a := K.c0 (g := g2) (r := rd) (by simp)
      have c4b := K.c1 (g := g2) (r := rd) (by simp)
      have c5a := K.c0 (g := g1) (r := rs) (by simp)
      have c5b := K.c1 (g := g1) (r := rs) (by simp)
      have c6a := K.c0 (g := py) (r := ry) (by simp)
      have c6b := K.c1 (g := py) (r := ry) (by simp)
      have c7a := K.c0 (g := px) (r := rx) (by simp)
      have c7b := K.c1 (g := px) (r := rx) (by simp)
      have c8a := K.c0 (g := q) (r := rb) (by simp)
      have c8b := K.c1 (g := q) (r := rb) (by simp)
      have c9a := K.c0 (g := p) (r := ra) (by simp)
      have c9b := K.c1 (g := p) (r := ra) (by simp)
      go_upto_region 11 with fail
      go_cut [23, 24] (fun t1 t2 wx => t1 = .int .i64 (smZ ra.s la) ∧ t2 = .bool (smOk ra.s la) ∧ Env w [rz, rv, rt, rm, rd, rs] [(g6, rz), (g5, rv), (g4, rt), (g3, rm), (g2, rd), (g1, rs), (py, ry), (px, rx), (q, rb), (p, ra)] wx ∧ Tl w gx ra.n gy rb.n la lb [rs, rd, rm] wx)
      case first =>
       as_aux_lemma =>
        go_wp2_with fail
        refine (refSmall_raw _ ra.s ra.A ra.n ra.c la (hRa.below K.bl)).mono ?_
        skip
        rintro e wn ⟨rfl, hbn⟩
        go_wp2
        go_meet
        exact ⟨rfl, rfl, K.below hbn, T.below hbn⟩
      obtain ⟨rfl, rfl, KN, TN⟩ := hcut
      clear c0a c0b c1a c1b c2a c2b c3a c3b c4a c4b c5a c5b c6a c6b c7a c7b c8a c8b c9a c9b
      clear K T
      have K := KN
      have T := TN
      clear KN TN
      have c0a := K.c0 (g := g6) (r := rz) (by simp)
      have c0b := K.c1 (g := g6) (r := rz) (by simp)
      have c1a := K.c0 (g := g5) (r := rv) (by simp)
      have c1b := K.c1 (g := g5) (r := rv) (by simp)
      have c2a := K.c0 (g := g4) (r := rt) (by simp)
      have c2b := K.c1 (g := g4) (r := rt) (by simp)
      have c3a := K.c0 (g := g3) (r := rm) (by simp)
      have c3b := K.c1 (g := g3) (r := rm) (by simp)
      have c4a := K.c0 (g := g2) (r := rd) (by simp)
      have c4b := K.c1 (g := g2) (r := rd) (by simp)
      have c5a := K.c0 (g := g1) (r := rs) (by simp)
      have c5b := K.c1 (g := g1) (r := rs) (by simp)
      have c6a := K.c0 (g := py) (r := ry) (by simp)
      have c6b := K.c1 (g := py) (r := ry) (by simp)
      have c7a := K.c0 (g := px) (r := rx) (by simp)
      have c7b := K.c1 (g := px) (r := rx) (by simp)
      have c8a := K.c0 (g := q) (r := rb) (by simp)
      have c8b := K.c1 (g := q) (r := rb) (by simp)
      have c9a := K.c0 (g := p) (r := ra) (by simp)
      have c9b := K.c1 (g := p) (r := ra) (by simp)
      go_upto_region 12 with fail
      go_cut [25] (fun t1 wx => ∃ (g7 : Nat) (rg : NumR), t1 = .pointer (some ⟨g7, 0, none⟩) ∧ rg.z = negZ ra.s la ∧ Env w [rg, rz, rv, rt, rm, rd, rs] [(g7, rg), (g6, rz), (g5, rv), (g4, rt), (g3, rm), (g2, rd), (g1, rs), (py, ry), (px, rx), (q, rb), (p, ra)] wx ∧ Tl w gx ra.n gy rb.n la lb [rs, rd, rm, rg] wx)
      case first =>
       as_aux_lemma =>
        go_wp2_with fail
        refine (neg_raw _ rx.s rx.A rx.n rx.c la (T.rawX HX (by omega))).mono ?_
        rw [hxs.out]
        rintro e wn hpost
        obtain ⟨r, rfl, hz, hn, hy, how, hof, hbn⟩ := hpost.retO (by exact negZ_top hsa.out)
        have Hz := Lib.hid hz
        clear hz hpost
        go_wp2
        go_meet
        exact ⟨_, r, rfl, Hz.out, ((K.below hbn).push hn hy).new r, (T.push hbn how hof K.bl.size).alloc _⟩
      obtain ⟨g7, rg, rfl, hzrg0, KN, TN⟩ := hcut
      have hzrg := Lib.hid hzrg0
      clear c0a c0b c1a c1b c2a c2b c3a c3b c4a c4b c5a c5b c6a c6b c7a c7b c8a c8b c9a c9b
      clear K T hzrg0
      have K := KN
      have T := TN
      clear KN TN
      have c0a := K.c0 (g := g7) (r := rg) (by simp)
      have c0b := K.c1 (g := g7) (r := rg) (by simp)
      have c1a := K.c0 (g := g6) (r := rz) (by simp)
      have c1b := K.c1 (g := g6) (r := rz) (by simp)
      have c2a := K.c0 (g := g5) (r := rv) (by simp)
      have c2b := K.c1 (g := g5) (r := rv) (by simp)
      have c3a := K.c0 (g := g4) (r := rt) (by simp)
      have c3b := K.c1 (g := g4) (r := rt) (by simp)
      have c4a := K.c0 (g := g3) (r := rm) (by simp)
      have c4b := K.c1 (g := g3) (r := rm) (by simp)
      have c5a := K.c0 (g := g2) (r := rd) (by simp)
      have c5b := K.c1 (g := g2) (r := rd) (by simp)
      have c6a := K.c0 (g := g1) (r := rs) (by simp)
      have c6b := K.c1 (g := g1) (r := rs) (by simp)
      have c7a := K.c0 (g := py) (r := ry) (by simp)
      have c7b := K.c1 (g := py) (r := ry) (by simp)
      have c8a := K.c0 (g := px) (r := rx) (by simp)
      have c8b := K.c1 (g := px) (r := rx) (by simp)
      have c9a := K.c0 (g := q) (r := rb) (by simp)
      have c9b := K.c1 (g := q) (r := rb) (by simp)
      have c10a := K.c0 (g := p) (r := ra) (by simp)
      have c10b := K.c1 (g := p) (r := ra) (by simp)
      have hlenrs := Lib.hid (K.nt rs (by simp)).len
      have hlenrd := Lib.hid (K.nt rd (by simp)).len
      have hlenrm := Lib.hid (K.nt rm (by simp)).len
      have hlenrg := Lib.hid (K.nt rg (by simp)).len
      as_aux_lemma =>
        go_upto_region 13 with fail
        go_cut [26] (fun t1 wx => t1 = .bool true ∧ Env w [] [(g7, rg), (g6, rz), (g5, rv), (g4, rt), (g3, rm), (g2, rd), (g1, rs), (py, ry), (px, rx), (q, rb), (p, ra)] wx ∧ Tl w gx ra.n gy rb.n la lb [rs, rd, rm, rg] wx)
        case first =>
         as_aux_lemma =>
          have e1 : rs.z = rt.z := by rw [hzrs.out, hzrt.out]
          have e2 : rd.z = rv.z := by rw [hzrd.out, hzrv.out]
          have e3 : rm.z = rz.z := by rw [hzrm.out, hzrz.out]
          have e4 : rg.z = negZ ra.s la := hzrg.out
          have KA := K.drew
          have TA := T.drew
          simp only [List.append_eq, List.cons_append, List.nil_append]
          go_region_held3 (fun w' => w'.cell? ⟨g7, 0, none⟩ = some (.bool rg.s) ∧ w'.cell? ⟨g7, 1, none⟩ = some (.slice rg.A rg.n rg.c) ∧ w'.cell? ⟨g6, 0, none⟩ = some (.bool rz.s) ∧ w'.cell? ⟨g6, 1, none⟩ = some (.slice rz.A rz.n rz.c) ∧ w'.cell? ⟨g5, 0, none⟩ = some (.bool rv.s) ∧ w'.cell? ⟨g5, 1, none⟩ = some (.slice rv.A rv.n rv.c) ∧ w'.cell? ⟨g4, 0, none⟩ = some (.bool rt.s) ∧ w'.cell? ⟨g4, 1, none⟩ = some (.slice rt.A rt.n rt.c) ∧ w'.cell? ⟨g3, 0, none⟩ = some (.bool rm.s) ∧ w'.cell? ⟨g3, 1, none⟩ = some (.slice rm.A rm.n rm.c) ∧ w'.cell? ⟨g2, 0, none⟩ = some (.bool rd.s) ∧ w'.cell? ⟨g2, 1, none⟩ = some (.slice rd.A rd.n rd.c) ∧ w'.cell? ⟨g1, 0, none⟩ = some (.bool rs.s) ∧ w'.cell? ⟨g1, 1, none⟩ = some (.slice rs.A rs.n rs.c) ∧ w'.cell? ⟨py, 0, none⟩ = some (.bool ry.s) ∧ w'.cell? ⟨py, 1, none⟩ = some (.slice ry.A ry.n ry.c) ∧ w'.cell? ⟨px, 0, none⟩ = some (.bool rx.s) ∧ w'.cell? ⟨px, 1, none⟩ = some (.slice rx.A rx.n rx.c) ∧ w'.cell? ⟨q, 0, none⟩ = some (.bool rb.s) ∧ w'.cell? ⟨q, 1, none⟩ = some (.slice rb.A rb.n rb.c) ∧ w'.cell? ⟨p, 0, none⟩ = some (.bool ra.s) ∧ w'.cell? ⟨p, 1, none⟩ = some (.slice ra.A ra.n ra.c))
            (first | exact ⟨K.c0 (g := g7) (r := rg) (by simp), K.c1 (g := g7) (r := rg) (by simp), K.c0 (g := g6) (r := rz) (by simp), K.c1 (g := g6) (r := rz) (by simp), K.c0 (g := g5) (r := rv) (by simp), K.c1 (g := g5) (r := rv) (by simp), K.c0 (g := g4) (r := rt) (by simp), K.c1 (g := g4) (r := rt) (by simp), K.c0 (g := g3) (r := rm) (by simp), K.c1 (g := g3) (r := rm) (by simp), K.c0 (g := g2) (r := rd) (by simp), K.c1 (g := g2) (r := rd) (by simp), K.c0 (g := g1) (r := rs) (by simp), K.c1 (g := g1) (r := rs) (by simp), K.c0 (g := py) (r := ry) (by simp), K.c1 (g := py) (r := ry) (by simp), K.c0 (g := px) (r := rx) (by simp), K.c1 (g := px) (r := rx) (by simp), K.c0 (g := q) (r := rb) (by simp), K.c1 (g := q) (r := rb) (by simp), K.c0 (g := p) (r := ra) (by simp), K.c1 (g := p) (r := ra) (by simp)⟩ | exact ⟨KA.c0 (g := g7) (r := rg) (by simp), KA.c1 (g := g7) (r := rg) (by simp), KA.c0 (g := g6) (r := rz) (by simp), KA.c1 (g := g6) (r := rz) (by simp), KA.c0 (g := g5) (r := rv) (by simp), KA.c1 (g := g5) (r := rv) (by simp), KA.c0 (g := g4) (r := rt) (by simp), KA.c1 (g := g4) (r := rt) (by simp), KA.c0 (g := g3) (r := rm) (by simp), KA.c1 (g := g3) (r := rm) (by simp), KA.c0 (g := g2) (r := rd) (by simp), KA.c1 (g := g2) (r := rd) (by simp), KA.c0 (g := g1) (r := rs) (by simp), KA.c1 (g := g1) (r := rs) (by simp), KA.c0 (g := py) (r := ry) (by simp), KA.c1 (g := py) (r := ry) (by simp), KA.c0 (g := px) (r := rx) (by simp), KA.c1 (g := px) (r := rx) (by simp), KA.c0 (g := q) (r := rb) (by simp), KA.c1 (g := q) (r := rb) (by simp), KA.c0 (g := p) (r := ra) (by simp), KA.c1 (g := p) (r := ra) (by simp)⟩)
            (first
              | (go_at_call 20; refine (same_r _ _ _ (KA.nt _ (by simp)) (KA.nt _ (by simp))).mono ?_; rintro e v ⟨rfl, hbv⟩; have KA := KA.below hbv; have TA := TA.below hbv)
              | (go_at_call 21; refine (cmp_x _ rx ry ra rb la lb hxs hys (TA.rawX HX (by omega)) (TA.rawY HY (by omega))).mono ?_; rintro e v ⟨rfl, hbv⟩; have KA := KA.below hbv; have TA := TA.below hbv)
              | (go_at_call 22; refine (refCmp_raw _ ra.s rb.s ra.A rb.A ra.n ra.c rb.n rb.c la lb (hRa.below KA.bl) (hRb.below KA.bl)).mono ?_; rintro e v ⟨rfl, hbv⟩; have KA := KA.below hbv; have TA := TA.below hbv)
              | (go_at_call 23; refine (refNeg_raw _ ra.s ra.A ra.n ra.c la (hRa.below KA.bl)).mono ?_; rintro e v hpost; obtain ⟨r, rfl, hz, hn, hy, how, hof, hbv⟩ := hpost.retO (negZ_top hsa.out); clear hpost; have KA := (KA.below hbv).push hn hy; have TA := TA.below hbv)
              | (go_at_call 24; refine (may_x _ rx ra la hxs (TA.rawX HX (by omega))).mono ?_; rintro e v ⟨rfl, hbv⟩; have KA := KA.below hbv; have TA := TA.below hbv)
              | (go_at_call 25; refine (refMay_b _ ra.s ra.A ra.n ra.c la (hRa.below KA.bl)).mono ?_; rintro e v ⟨rfl, hbv⟩; have KA := KA.below hbv; have TA := TA.below hbv)
              | (go_at_call 26; refine (of_r _ z hz1 hz2).mono ?_; rintro e v ⟨r, rfl, hz, hn, hy, hbv⟩; have KA := (KA.below hbv).push hn hy; have TA := TA.below hbv)
              | (go_at_call 27; refine (refOf_any _ z hz1 hz2).mono ?_; rintro e v hpost; obtain ⟨r, rfl, hz, hn, hy, hbv⟩ := hpost.ret (by have := Lm.top_ge; omega); clear hpost; have KA := (KA.below hbv).push hn hy; have TA := TA.below hbv))
          go_wp2
          go_meet
          exact ⟨rfl, ⟨KA.bl, fun r hr => by simp at hr, fun r hr => by simp at hr, KA.bx⟩, TA⟩
        obtain ⟨rfl, KN, TN⟩ := hcut
        clear c0a c0b c1a c1b c2a c2b c3a c3b c4a c4b c5a c5b c6a c6b c7a c7b c8a c8b c9a c9b c10a c10b
        clear K T
        have K := KN
        have T := TN
        clear KN TN
        have c0a := K.c0 (g := g7) (r := rg) (by simp)
        have c0b := K.c1 (g := g7) (r := rg) (by simp)
        have c1a := K.c0 (g := g6) (r := rz) (by simp)
        have c1b := K.c1 (g := g6) (r := rz) (by simp)
        have c2a := K.c0 (g := g5) (r := rv) (by simp)
        have c2b := K.c1 (g := g5) (r := rv) (by simp)
        have c3a := K.c0 (g := g4) (r := rt) (by simp)
        have c3b := K.c1 (g := g4) (r := rt) (by simp)
        have c4a := K.c0 (g := g3) (r := rm) (by simp)
        have c4b := K.c1 (g := g3) (r := rm) (by simp)
        have c5a := K.c0 (g := g2) (r := rd) (by simp)
        have c5b := K.c1 (g := g2) (r := rd) (by simp)
        have c6a := K.c0 (g := g1) (r := rs) (by simp)
        have c6b := K.c1 (g := g1) (r := rs) (by simp)
        have c7a := K.c0 (g := py) (r := ry) (by simp)
        have c7b := K.c1 (g := py) (r := ry) (by simp)
        have c8a := K.c0 (g := px) (r := rx) (by simp)
        have c8b := K.c1 (g := px) (r := rx) (by simp)
        have c9a := K.c0 (g := q) (r := rb) (by simp)
        have c9b := K.c1 (g := q) (r := rb) (by simp)
        have c10a := K.c0 (g := p) (r := ra) (by simp)
        have c10b := K.c1 (g := p) (r := ra) (by simp)
        have lenrs := hlenrs.out
        have lenrd := hlenrd.out
        have lenrm := hlenrm.out
        have lenrg := hlenrg.out
        go_wp2_with fail
        refine (over_ow _ rs (T.ow rs (by simp)) (by omega)).mono ?_
        rintro e wn ⟨rfl, hgr⟩
        have KN := K.over T hgr
        have TN := T.over hgr
        clear c0a c0b c1a c1b c2a c2b c3a c3b c4a c4b c5a c5b c6a c6b c7a c7b c8a c8b c9a c9b c10a c10b
        clear K T hgr
        have K := KN
        have T := TN
        clear KN TN
        have c0a := K.c0 (g := g7) (r := rg) (by simp)
        have c0b := K.c1 (g := g7) (r := rg) (by simp)
        have c1a := K.c0 (g := g6) (r := rz) (by simp)
        have c1b := K.c1 (g := g6) (r := rz) (by simp)
        have c2a := K.c0 (g := g5) (r := rv) (by simp)
        have c2b := K.c1 (g := g5) (r := rv) (by simp)
        have c3a := K.c0 (g := g4) (r := rt) (by simp)
        have c3b := K.c1 (g := g4) (r := rt) (by simp)
        have c4a := K.c0 (g := g3) (r := rm) (by simp)
        have c4b := K.c1 (g := g3) (r := rm) (by simp)
        have c5a := K.c0 (g := g2) (r := rd) (by simp)
        have c5b := K.c1 (g := g2) (r := rd) (by simp)
        have c6a := K.c0 (g := g1) (r := rs) (by simp)
        have c6b := K.c1 (g := g1) (r := rs) (by simp)
        have c7a := K.c0 (g := py) (r := ry) (by simp)
        have c7b := K.c1 (g := py) (r := ry) (by simp)
        have c8a := K.c0 (g := px) (r := rx) (by simp)
        have c8b := K.c1 (g := px) (r := rx) (by simp)
        have c9a := K.c0 (g := q) (r := rb) (by simp)
        have c9b := K.c1 (g := q) (r := rb) (by simp)
        have c10a := K.c0 (g := p) (r := ra) (by simp)
        have c10b := K.c1 (g := p) (r := ra) (by simp)
        go_wp2_with fail
        refine (over_ow _ rd (T.ow rd (by simp)) (by omega)).mono ?_
        rintro e wn ⟨rfl, hgr⟩
        have KN := K.over T hgr
        have TN := T.over hgr
        clear c0a c0b c1a c1b c2a c2b c3a c3b c4a c4b c5a c5b c6a c6b c7a c7b c8a c8b c9a c9b c10a c10b
        clear K T hgr
        have K := KN
        have T := TN
        clear KN TN
        have c0a := K.c0 (g := g7) (r := rg) (by simp)
        have c0b := K.c1 (g := g7) (r := rg) (by simp)
        have c1a := K.c0 (g := g6) (r := rz) (by simp)
        have c1b := K.c1 (g := g6) (r := rz) (by simp)
        have c2a := K.c0 (g := g5) (r := rv) (by simp)
        have c2b := K.c1 (g := g5) (r := rv) (by simp)
        have c3a := K.c0 (g := g4) (r := rt) (by simp)
        have c3b := K.c1 (g := g4) (r := rt) (by simp)
        have c4a := K.c0 (g := g3) (r := rm) (by simp)
        have c4b := K.c1 (g := g3) (r := rm) (by simp)
        have c5a := K.c0 (g := g2) (r := rd) (by simp)
        have c5b := K.c1 (g := g2) (r := rd) (by simp)
        have c6a := K.c0 (g := g1) (r := rs) (by simp)
        have c6b := K.c1 (g := g1) (r := rs) (by simp)
        have c7a := K.c0 (g := py) (r := ry) (by simp)
        have c7b := K.c1 (g := py) (r := ry) (by simp)
        have c8a := K.c0 (g := px) (r := rx) (by simp)
        have c8b := K.c1 (g := px) (r := rx) (by simp)
        have c9a := K.c0 (g := q) (r := rb) (by simp)
        have c9b := K.c1 (g := q) (r := rb) (by simp)
        have c10a := K.c0 (g := p) (r := ra) (by simp)
        have c10b := K.c1 (g := p) (r := ra) (by simp)
        go_wp2_with fail
        refine (over_ow _ rm (T.ow rm (by simp)) (by omega)).mono ?_
        rintro e wn ⟨rfl, hgr⟩
        have KN := K.over T hgr
        have TN := T.over hgr
        clear c0a c0b c1a c1b c2a c2b c3a c3b c4a c4b c5a c5b c6a c6b c7a c7b c8a c8b c9a c9b c10a c10b
        clear K T hgr
        have K := KN
        have T := TN
        clear KN TN
        have c0a := K.c0 (g := g7) (r := rg) (by simp)
        have c0b := K.c1 (g := g7) (r := rg) (by simp)
        have c1a := K.c0 (g := g6) (r := rz) (by simp)
        have c1b := K.c1 (g := g6) (r := rz) (by simp)
        have c2a := K.c0 (g := g5) (r := rv) (by simp)
        have c2b := K.c1 (g := g5) (r := rv) (by simp)
        have c3a := K.c0 (g := g4) (r := rt) (by simp)
        have c3b := K.c1 (g := g4) (r := rt) (by simp)
        have c4a := K.c0 (g := g3) (r := rm) (by simp)
        have c4b := K.c1 (g := g3) (r := rm) (by simp)
        have c5a := K.c0 (g := g2) (r := rd) (by simp)
        have c5b := K.c1 (g := g2) (r := rd) (by simp)
        have c6a := K.c0 (g := g1) (r := rs) (by simp)
        have c6b := K.c1 (g := g1) (r := rs) (by simp)
        have c7a := K.c0 (g := py) (r := ry) (by simp)
        have c7b := K.c1 (g := py) (r := ry) (by simp)
        have c8a := K.c0 (g := px) (r := rx) (by simp)
        have c8b := K.c1 (g := px) (r := rx) (by simp)
        have c9a := K.c0 (g := q) (r := rb) (by simp)
        have c9b := K.c1 (g := q) (r := rb) (by simp)
        have c10a := K.c0 (g := p) (r := ra) (by simp)
        have c10b := K.c1 (g := p) (r := ra) (by simp)
        go_wp2_with fail
        refine (over_ow _ rg (T.ow rg (by simp)) (by omega)).mono ?_
        rintro e wn ⟨rfl, hgr⟩
        have KN := K.over T hgr
        have TN := T.over hgr
        clear c0a c0b c1a c1b c2a c2b c3a c3b c4a c4b c5a c5b c6a c6b c7a c7b c8a c8b c9a c9b c10a c10b
        clear K T hgr
        have K := KN
        have T := TN
        clear KN TN
        have c0a := K.c0 (g := g7) (r := rg) (by simp)
        have c0b := K.c1 (g := g7) (r := rg) (by simp)
        have c1a := K.c0 (g := g6) (r := rz) (by simp)
        have c1b := K.c1 (g := g6) (r := rz) (by simp)
        have c2a := K.c0 (g := g5) (r := rv) (by simp)
        have c2b := K.c1 (g := g5) (r := rv) (by simp)
        have c3a := K.c0 (g := g4) (r := rt) (by simp)
        have c3b := K.c1 (g := g4) (r := rt) (by simp)
        have c4a := K.c0 (g := g3) (r := rm) (by simp)
        have c4b := K.c1 (g := g3) (r := rm) (by simp)
        have c5a := K.c0 (g := g2) (r := rd) (by simp)
        have c5b := K.c1 (g := g2) (r := rd) (by simp)
        have c6a := K.c0 (g := g1) (r := rs) (by simp)
        have c6b := K.c1 (g := g1) (r := rs) (by simp)
        have c7a := K.c0 (g := py) (r := ry) (by simp)
        have c7b := K.c1 (g := py) (r := ry) (by simp)
        have c8a := K.c0 (g := px) (r := rx) (by simp)
        have c8b := K.c1 (g := px) (r := rx) (by simp)
        have c9a := K.c0 (g := q) (r := rb) (by simp)
        have c9b := K.c1 (g := q) (r := rb) (by simp)
        have c10a := K.c0 (g := p) (r := ra) (by simp)
        have c10b := K.c1 (g := p) (r := ra) (by simp)
        go_wp2_with fail
        refine (kept_r _ rx gx ra.n la ra.A ra.c HX T.lx (by omega) (hRa.below K.bl)).mono ?_
        rintro e wn ⟨rfl, hbn⟩
        replace K := K.below hbn
        replace T := T.below hbn
        clear c0a c0b c1a c1b c2a c2b c3a c3b c4a c4b c5a c5b c6a c6b c7a c7b c8a c8b c9a c9b c10a c10b
        have c0a := K.c0 (g := g7) (r := rg) (by simp)
        have c0b := K.c1 (g := g7) (r := rg) (by simp)
        have c1a := K.c0 (g := g6) (r := rz) (by simp)
        have c1b := K.c1 (g := g6) (r := rz) (by simp)
        have c2a := K.c0 (g := g5) (r := rv) (by simp)
        have c2b := K.c1 (g := g5) (r := rv) (by simp)
        have c3a := K.c0 (g := g4) (r := rt) (by simp)
        have c3b := K.c1 (g := g4) (r := rt) (by simp)
        have c4a := K.c0 (g := g3) (r := rm) (by simp)
        have c4b := K.c1 (g := g3) (r := rm) (by simp)
        have c5a := K.c0 (g := g2) (r := rd) (by simp)
        have c5b := K.c1 (g := g2) (r := rd) (by simp)
        have c6a := K.c0 (g := g1) (r := rs) (by simp)
        have c6b := K.c1 (g := g1) (r := rs) (by simp)
        have c7a := K.c0 (g := py) (r := ry) (by simp)
        have c7b := K.c1 (g := py) (r := ry) (by simp)
        have c8a := K.c0 (g := px) (r := rx) (by simp)
        have c8b := K.c1 (g := px) (r := rx) (by simp)
        have c9a := K.c0 (g := q) (r := rb) (by simp)
        have c9b := K.c1 (g := q) (r := rb) (by simp)
        have c10a := K.c0 (g := p) (r := ra) (by simp)
        have c10b := K.c1 (g := p) (r := ra) (by simp)
        go_wp2_with fail
        refine (kept_r _ ry gy rb.n lb rb.A rb.c HY T.ly (by omega) (hRb.below K.bl)).mono ?_
        rintro e wn ⟨rfl, hbn⟩
        replace K := K.below hbn
        replace T := T.below hbn
        clear c0a c0b c1a c1b c2a c2b c3a c3b c4a c4b c5a c5b c6a c6b c7a c7b c8a c8b c9a c9b c10a c10b
        have c0a := K.c0 (g := g7) (r := rg) (by simp)
        have c0b := K.c1 (g := g7) (r := rg) (by simp)
        have c1a := K.c0 (g := g6) (r := rz) (by simp)
        have c1b := K.c1 (g := g6) (r := rz) (by simp)
        have c2a := K.c0 (g := g5) (r := rv) (by simp)
        have c2b := K.c1 (g := g5) (r := rv) (by simp)
        have c3a := K.c0 (g := g4) (r := rt) (by simp)
        have c3b := K.c1 (g := g4) (r := rt) (by simp)
        have c4a := K.c0 (g := g3) (r := rm) (by simp)
        have c4b := K.c1 (g := g3) (r := rm) (by simp)
        have c5a := K.c0 (g := g2) (r := rd) (by simp)
        have c5b := K.c1 (g := g2) (r := rd) (by simp)
        have c6a := K.c0 (g := g1) (r := rs) (by simp)
        have c6b := K.c1 (g := g1) (r := rs) (by simp)
        have c7a := K.c0 (g := py) (r := ry) (by simp)
        have c7b := K.c1 (g := py) (r := ry) (by simp)
        have c8a := K.c0 (g := px) (r := rx) (by simp)
        have c8b := K.c1 (g := px) (r := rx) (by simp)
        have c9a := K.c0 (g := q) (r := rb) (by simp)
        have c9b := K.c1 (g := q) (r := rb) (by simp)
        have c10a := K.c0 (g := p) (r := ra) (by simp)
        have c10b := K.c1 (g := p) (r := ra) (by simp)
        go_wp2_with fail
        refine (awake_any _).mono ?_
        rintro e wn ⟨rfl, hbn⟩
        replace K := K.below hbn
        clear c0a c0b c1a c1b c2a c2b c3a c3b c4a c4b c5a c5b c6a c6b c7a c7b c8a c8b c9a c9b c10a c10b
        have c0a := K.c0 (g := g7) (r := rg) (by simp)
        have c0b := K.c1 (g := g7) (r := rg) (by simp)
        have c1a := K.c0 (g := g6) (r := rz) (by simp)
        have c1b := K.c1 (g := g6) (r := rz) (by simp)
        have c2a := K.c0 (g := g5) (r := rv) (by simp)
        have c2b := K.c1 (g := g5) (r := rv) (by simp)
        have c3a := K.c0 (g := g4) (r := rt) (by simp)
        have c3b := K.c1 (g := g4) (r := rt) (by simp)
        have c4a := K.c0 (g := g3) (r := rm) (by simp)
        have c4b := K.c1 (g := g3) (r := rm) (by simp)
        have c5a := K.c0 (g := g2) (r := rd) (by simp)
        have c5b := K.c1 (g := g2) (r := rd) (by simp)
        have c6a := K.c0 (g := g1) (r := rs) (by simp)
        have c6b := K.c1 (g := g1) (r := rs) (by simp)
        have c7a := K.c0 (g := py) (r := ry) (by simp)
        have c7b := K.c1 (g := py) (r := ry) (by simp)
        have c8a := K.c0 (g := px) (r := rx) (by simp)
        have c8b := K.c1 (g := px) (r := rx) (by simp)
        have c9a := K.c0 (g := q) (r := rb) (by simp)
        have c9b := K.c1 (g := q) (r := rb) (by simp)
        have c10a := K.c0 (g := p) (r := ra) (by simp)
        have c10b := K.c1 (g := p) (r := ra) (by simp)
        go_wp2
        go_ret
        exact ⟨rfl, K.bl⟩

end Go.Proofs.Ytlmojomnebjhaaa
