/-
  beehivelaw1.NumMirrors RETURNS TRUE AT NUMBERS THAT MAY BE: its walk.
-/
import Derived.Test.YtlmojomnebjhaaaEnv
namespace Go.Proofs.Ytlmojomnebjhaaa
open Go.RowKit

theorem clip_neg (z : Int) : clip (-z) = -clip z := by unfold clip; rw [Int.natAbs_neg]; split <;> simp
theorem fits_neg (z : Int) : fits (-z) = fits z := by unfold fits; rw [Int.natAbs_neg]
theorem cmpZ_neg (a b : Int) : cmpZ (-a) (-b) = cmpZ b a := by
  unfold cmpZ
  by_cases h1 : b < a
  · rw [if_pos (by omega), if_pos h1]
  · by_cases h2 : a < b
    · rw [if_neg (by omega), if_pos (by omega), if_neg h1, if_pos h2]
    · rw [if_neg (by omega), if_neg (by omega), if_neg h1, if_neg h2]
theorem cmpZ_turn (a b : Int) : cmpZ a b = -cmpZ b a := by
  unfold cmpZ
  by_cases h1 : b < a
  · rw [if_neg (by omega), if_pos h1, if_pos h1]; rfl
  · by_cases h2 : a < b
    · rw [if_pos h2, if_neg h1, if_pos h2]
    · rw [if_neg h2, if_neg h1, if_neg h1, if_neg h2]; rfl
theorem cmpZ_bound (a b : Int) : -1 ≤ cmpZ a b ∧ cmpZ a b ≤ 1 := by unfold cmpZ; split <;> (try split) <;> omega

set_option maxRecDepth 100000 in
set_option maxHeartbeats 4000000 in
theorem numMirrors_yes (w : World) (ra rb : NumR) (ha : Nt w ra) (hb : Nt w rb) :
    Calls Try.prog 7 #[.agg #[.bool ra.s, .slice ra.A ra.n ra.c], .agg #[.bool rb.s, .slice rb.A rb.n rb.c]] w fun e w' => e = .returned (.bool true) ∧ Below w.heap.size w w' := by
  have K0 : Env w [ra, rb] [] w := ⟨Below.refl _ _, fun r hr => by simp at hr; rcases hr with rfl | rfl <;> assumption, fun r hr => by simp at hr; rcases hr with rfl | rfl <;> exact Nt.sep (by assumption), fun x hx => by simp at hx⟩
  have K := (K0.new ra).new rb
  simp only [World.size_alloc] at K
  have hta := Lib.hid ha.2
  clear K0 ha hb
  go_enter Try.func7, Try.ntmps7
  go_wp2_with fail
  obtain ⟨p, hp⟩ : ∃ p, p = w.heap.size := ⟨_, rfl⟩
  obtain ⟨q, hq⟩ : ∃ q, q = w.heap.size + 1 := ⟨_, rfl⟩
  generalize (w.alloc (.cells #[.bool ra.s, .slice ra.A ra.n ra.c] 24)).alloc (.cells #[.bool rb.s, .slice rb.A rb.n rb.c] 24) = W at *
  rw [← hq, ← hp] at K ⊢
  have hpw : w.heap.size ≤ p := by omega
  clear hp hq
  have c0a := K.c0 (g := q) (r := rb) (by simp)
  have c0b := K.c1 (g := q) (r := rb) (by simp)
  have c1a := K.c0 (g := p) (r := ra) (by simp)
  have c1b := K.c1 (g := p) (r := ra) (by simp)
  refine (great_r _ ra (K.nt _ (by simp))).mono ?_
  rintro e wn ⟨rfl, hbn⟩
  replace K := K.below hbn
  clear c0a c0b c1a c1b
  have c0a := K.c0 (g := q) (r := rb) (by simp)
  have c0b := K.c1 (g := q) (r := rb) (by simp)
  have c1a := K.c0 (g := p) (r := ra) (by simp)
  have c1b := K.c1 (g := p) (r := ra) (by simp)
  go_wp2_with fail
  refine (great_r _ rb (K.nt _ (by simp))).mono ?_
  rintro e wn ⟨rfl, hbn⟩
  replace K := K.below hbn
  clear c0a c0b c1a c1b
  have c0a := K.c0 (g := q) (r := rb) (by simp)
  have c0b := K.c1 (g := q) (r := rb) (by simp)
  have c1a := K.c0 (g := p) (r := ra) (by simp)
  have c1b := K.c1 (g := p) (r := ra) (by simp)
  go_wp2_with fail
  refine (may_r _ ra (K.nt _ (by simp))).mono ?_
  rintro e wn ⟨rfl, hbn⟩
  replace K := K.below hbn
  clear c0a c0b c1a c1b
  have c0a := K.c0 (g := q) (r := rb) (by simp)
  have c0b := K.c1 (g := q) (r := rb) (by simp)
  have c1a := K.c0 (g := p) (r := ra) (by simp)
  have c1b := K.c1 (g := p) (r := ra) (by simp)
  go_wp2_with fail
  refine (may_r _ rb (K.nt _ (by simp))).mono ?_
  rintro e wn ⟨rfl, hbn⟩
  replace K := K.below hbn
  clear c0a c0b c1a c1b
  have c0a := K.c0 (g := q) (r := rb) (by simp)
  have c0b := K.c1 (g := q) (r := rb) (by simp)
  have c1a := K.c0 (g := p) (r := ra) (by simp)
  have c1b := K.c1 (g := p) (r := ra) (by simp)
  go_upto_region 3 with fail
  go_cut [5, 6] (fun t1 t2 wx => ∃ (g1 : Nat) (rd : NumR), t1 = .pointer (some ⟨g1, 0, none⟩) ∧ t2 = .bool (fits (ra.z - rb.z)) ∧ rd.z = clip (ra.z - rb.z) ∧ Env w [rd, ra, rb] [(g1, rd), (q, rb), (p, ra)] wx)
  case first =>
    go_wp2_with fail
    refine (sub_r _ ra rb (K.nt _ (by simp)) (K.nt _ (by simp))).mono ?_
    rintro e wn ⟨r, rfl, hz, hn, hy, hbn⟩
    have Hz := Lib.hid hz
    clear hz
    go_wp2
    go_meet
    exact ⟨_, r, rfl, rfl, Hz.out, ((K.below hbn).push hn hy).new r⟩
  obtain ⟨g1, rd, rfl, rfl, hzd0, KN⟩ := hcut
  have hzd := Lib.hid hzd0
  clear c0a c0b c1a c1b
  clear K hzd0
  have K := KN
  clear KN
  have c0a := K.c0 (g := g1) (r := rd) (by simp)
  have c0b := K.c1 (g := g1) (r := rd) (by simp)
  have c1a := K.c0 (g := q) (r := rb) (by simp)
  have c1b := K.c1 (g := q) (r := rb) (by simp)
  have c2a := K.c0 (g := p) (r := ra) (by simp)
  have c2b := K.c1 (g := p) (r := ra) (by simp)
  go_upto_region 4 with fail
  go_cut [7, 8] (fun t1 t2 wx => ∃ (g2 : Nat) (re : NumR), t1 = .pointer (some ⟨g2, 0, none⟩) ∧ t2 = .bool (fits (rb.z - ra.z)) ∧ re.z = clip (rb.z - ra.z) ∧ Env w [re, rd, ra, rb] [(g2, re), (g1, rd), (q, rb), (p, ra)] wx)
  case first =>
    go_wp2_with fail
    refine (sub_r _ rb ra (K.nt _ (by simp)) (K.nt _ (by simp))).mono ?_
    rintro e wn ⟨r, rfl, hz, hn, hy, hbn⟩
    have Hz := Lib.hid hz
    clear hz
    go_wp2
    go_meet
    exact ⟨_, r, rfl, rfl, Hz.out, ((K.below hbn).push hn hy).new r⟩
  obtain ⟨g2, re, rfl, rfl, hze0, KN⟩ := hcut
  have hze := Lib.hid hze0
  clear c0a c0b c1a c1b c2a c2b
  clear K hze0
  have K := KN
  clear KN
  have c0a := K.c0 (g := g2) (r := re) (by simp)
  have c0b := K.c1 (g := g2) (r := re) (by simp)
  have c1a := K.c0 (g := g1) (r := rd) (by simp)
  have c1b := K.c1 (g := g1) (r := rd) (by simp)
  have c2a := K.c0 (g := q) (r := rb) (by simp)
  have c2b := K.c1 (g := q) (r := rb) (by simp)
  have c3a := K.c0 (g := p) (r := ra) (by simp)
  have c3b := K.c1 (g := p) (r := ra) (by simp)
  go_upto_region 5 with fail
  go_cut [9, 10] (fun t1 t2 wx => ∃ (g3 : Nat) (rm : NumR), t1 = .pointer (some ⟨g3, 0, none⟩) ∧ t2 = .bool (fits (-ra.z)) ∧ rm.z = clip (-ra.z) ∧ Env w [rm, re, rd, ra, rb] [(g3, rm), (g2, re), (g1, rd), (q, rb), (p, ra)] wx)
  case first =>
    have KA := K.drew
    have hsz : w.heap.size ≤ wc.heap.size := K.bl.size
    have hneC : ∀ x ∈ [(g2, re), (g1, rd), (q, rb), (p, ra)], x.1 ≠ wc.heap.size := fun x hx => by have h := (K.bx x hx).lt; omega
    go_region_held3 (fun w' => w'.cell? ⟨g2, 0, none⟩ = some (.bool re.s) ∧ w'.cell? ⟨g2, 1, none⟩ = some (.slice re.A re.n re.c) ∧ w'.cell? ⟨g1, 0, none⟩ = some (.bool rd.s) ∧ w'.cell? ⟨g1, 1, none⟩ = some (.slice rd.A rd.n rd.c) ∧ w'.cell? ⟨q, 0, none⟩ = some (.bool rb.s) ∧ w'.cell? ⟨q, 1, none⟩ = some (.slice rb.A rb.n rb.c) ∧ w'.cell? ⟨p, 0, none⟩ = some (.bool ra.s) ∧ w'.cell? ⟨p, 1, none⟩ = some (.slice ra.A ra.n ra.c))
      (first | exact ⟨K.c0 (g := g2) (r := re) (by simp), K.c1 (g := g2) (r := re) (by simp), K.c0 (g := g1) (r := rd) (by simp), K.c1 (g := g1) (r := rd) (by simp), K.c0 (g := q) (r := rb) (by simp), K.c1 (g := q) (r := rb) (by simp), K.c0 (g := p) (r := ra) (by simp), K.c1 (g := p) (r := ra) (by simp)⟩ | exact ⟨KA.c0 (g := g2) (r := re) (by simp), KA.c1 (g := g2) (r := re) (by simp), KA.c0 (g := g1) (r := rd) (by simp), KA.c1 (g := g1) (r := rd) (by simp), KA.c0 (g := q) (r := rb) (by simp), KA.c1 (g := q) (r := rb) (by simp), KA.c0 (g := p) (r := ra) (by simp), KA.c1 (g := p) (r := ra) (by simp)⟩ | exact ⟨(KA.alloc _).c0 (g := g2) (r := re) (by simp), (KA.alloc _).c1 (g := g2) (r := re) (by simp), (KA.alloc _).c0 (g := g1) (r := rd) (by simp), (KA.alloc _).c1 (g := g1) (r := rd) (by simp), (KA.alloc _).c0 (g := q) (r := rb) (by simp), (KA.alloc _).c1 (g := q) (r := rb) (by simp), (KA.alloc _).c0 (g := p) (r := ra) (by simp), (KA.alloc _).c1 (g := p) (r := ra) (by simp)⟩ | exact ⟨(KA.store0 hqB hgB hneB 0 _ |>.store0 (hqB.set0 _) hgB hneB 1 _).c0 (g := g2) (r := re) (by simp), (KA.store0 hqB hgB hneB 0 _ |>.store0 (hqB.set0 _) hgB hneB 1 _).c1 (g := g2) (r := re) (by simp), (KA.store0 hqB hgB hneB 0 _ |>.store0 (hqB.set0 _) hgB hneB 1 _).c0 (g := g1) (r := rd) (by simp), (KA.store0 hqB hgB hneB 0 _ |>.store0 (hqB.set0 _) hgB hneB 1 _).c1 (g := g1) (r := rd) (by simp), (KA.store0 hqB hgB hneB 0 _ |>.store0 (hqB.set0 _) hgB hneB 1 _).c0 (g := q) (r := rb) (by simp), (KA.store0 hqB hgB hneB 0 _ |>.store0 (hqB.set0 _) hgB hneB 1 _).c1 (g := q) (r := rb) (by simp), (KA.store0 hqB hgB hneB 0 _ |>.store0 (hqB.set0 _) hgB hneB 1 _).c0 (g := p) (r := ra) (by simp), (KA.store0 hqB hgB hneB 0 _ |>.store0 (hqB.set0 _) hgB hneB 1 _).c1 (g := p) (r := ra) (by simp)⟩)
      (first
        | (go_at_call 26; refine (of_r wc.drew (-1) (by decide) (by decide)).mono ?_; rintro e v1 ⟨ro, rfl, hzo, hno, hyo, hv1⟩; have KA := (KA.below hv1).push hno hyo; have Hzo := Lib.hid hzo; clear hzo)
        | (go_at_call 26; refine (of_r (wc.drew.alloc (.cells #[.bool false, .slice none 0 0] 24)) (-1) (by decide) (by decide)).mono ?_; rintro e v1 ⟨ro, rfl, hzo, hno, hyo, hvB⟩; have KA := ((KA.alloc (.cells #[.bool false, .slice none 0 0] 24)).below hvB).push hno hyo; have Hzo := Lib.hid hzo; clear hzo; have hqB : Box v1 wc.heap.size (.bool false) (.slice none 0 0) := (Box.new wc.drew (.bool false) (.slice none 0 0)).below' hvB; have hgB : w.heap.size ≤ wc.heap.size := hsz; have hneB : ∀ x ∈ [(g2, re), (g1, rd), (q, rb), (p, ra)], x.1 ≠ wc.heap.size := hneC)
        | (go_at_call 13; refine (mul_r v1 ra ro (KA.nt _ (by simp)) (KA.nt _ (by simp))).mono ?_; rw [Hzo.out, show ra.z * (-1 : Int) = -ra.z from by omega]; rintro e v2 ⟨rm, rfl, hzm, hnm, hym, hv2⟩; have KA := (KA.below hv2).push hnm hym; have Hzm := Lib.hid hzm; clear hzm; try (have hqB := hqB.below' hv2; have z0 := hqB.c0; have z1 := hqB.c1; have z2 := hqB.f0; have z3 := hqB.f1))
        | (go_at_call 13; refine (mul_r (v1.alloc (.cells #[.bool false, .slice none 0 0] 24)) ra ro ((KA.alloc _).nt _ (by simp)) ((KA.alloc _).nt _ (by simp))).mono ?_; rw [Hzo.out, show ra.z * (-1 : Int) = -ra.z from by omega]; rintro e v2 ⟨rm, rfl, hzm, hnm, hym, hvB⟩; have hgB : w.heap.size ≤ v1.heap.size := KA.bl.size; have hneB : ∀ x ∈ [(g2, re), (g1, rd), (q, rb), (p, ra)], x.1 ≠ v1.heap.size := (fun x hx => by have h := (KA.bx x hx).lt; omega); have hqB := (Box.new v1 (.bool false) (.slice none 0 0)).below' hvB; have KA := ((KA.alloc (.cells #[.bool false, .slice none 0 0] 24)).below hvB).push hnm hym; have Hzm := Lib.hid hzm; clear hzm; have z0 := hqB.c0; have z1 := hqB.c1; have z2 := hqB.f0; have z3 := hqB.f1))
    all_goals (go_wp2_with fail; go_meet)
    all_goals first
      | exact ⟨_, rm, rfl, rfl, Hzm.out, (KA.drop2.store hqB hgB hneB rm)⟩
      | exact ⟨_, rm, rfl, rfl, Hzm.out, KA.drop2.new rm⟩
  obtain ⟨g3, rm, rfl, rfl, hzm0, KN⟩ := hcut
  have hzm := Lib.hid hzm0
  clear c0a c0b c1a c1b c2a c2b c3a c3b
  clear K hzm0
  have K := KN
  clear KN
  have c0a := K.c0 (g := g3) (r := rm) (by simp)
  have c0b := K.c1 (g := g3) (r := rm) (by simp)
  have c1a := K.c0 (g := g2) (r := re) (by simp)
  have c1b := K.c1 (g := g2) (r := re) (by simp)
  have c2a := K.c0 (g := g1) (r := rd) (by simp)
  have c2b := K.c1 (g := g1) (r := rd) (by simp)
  have c3a := K.c0 (g := q) (r := rb) (by simp)
  have c3b := K.c1 (g := q) (r := rb) (by simp)
  have c4a := K.c0 (g := p) (r := ra) (by simp)
  have c4b := K.c1 (g := p) (r := ra) (by simp)
  go_upto_region 6 with fail
  go_cut [11, 12] (fun t1 t2 wx => ∃ (g4 : Nat) (rs : NumR), t1 = .pointer (some ⟨g4, 0, none⟩) ∧ t2 = .bool (true) ∧ rs.z = 0 ∧ Env w [rs, rm, re, rd, ra, rb] [(g4, rs), (g3, rm), (g2, re), (g1, rd), (q, rb), (p, ra)] wx)
  case first =>
    go_wp2_with fail
    refine (sub_self_r _ ra (K.nt _ (by simp))).mono ?_
    rintro e wn ⟨r, rfl, hz, hn, hy, hbn⟩
    have Hz := Lib.hid hz
    clear hz
    go_wp2
    go_meet
    exact ⟨_, r, rfl, rfl, Hz.out, ((K.below hbn).push hn hy).new r⟩
  obtain ⟨g4, rs, rfl, rfl, hzs0, KN⟩ := hcut
  have hzs := Lib.hid hzs0
  clear c0a c0b c1a c1b c2a c2b c3a c3b c4a c4b
  clear K hzs0
  have K := KN
  clear KN
  have c0a := K.c0 (g := g4) (r := rs) (by simp)
  have c0b := K.c1 (g := g4) (r := rs) (by simp)
  have c1a := K.c0 (g := g3) (r := rm) (by simp)
  have c1b := K.c1 (g := g3) (r := rm) (by simp)
  have c2a := K.c0 (g := g2) (r := re) (by simp)
  have c2b := K.c1 (g := g2) (r := re) (by simp)
  have c3a := K.c0 (g := g1) (r := rd) (by simp)
  have c3b := K.c1 (g := g1) (r := rd) (by simp)
  have c4a := K.c0 (g := q) (r := rb) (by simp)
  have c4b := K.c1 (g := q) (r := rb) (by simp)
  have c5a := K.c0 (g := p) (r := ra) (by simp)
  have c5b := K.c1 (g := p) (r := ra) (by simp)
  go_wp2
  have f1 : fits (rb.z - ra.z) = fits (ra.z - rb.z) := by rw [← fits_neg, Int.neg_sub]
  have f2 : fits (-ra.z) = true := by rw [fits_neg]; exact fits_small hta.out
  have f3 : rd.z = clip (ra.z - rb.z) := hzd.out
  have f4 : re.z = -clip (ra.z - rb.z) := by rw [hze.out, ← Int.neg_sub, clip_neg]
  have f5 : rm.z = -ra.z := by rw [hzm.out, clip_neg, clip_small hta.out]
  have f6 : rs.z = 0 := hzs.out
  have f7 : cmpZ (-ra.z) (-rb.z) = cmpZ rb.z ra.z := cmpZ_neg _ _
  have f8 : IntKind.i64.wrap (-cmpZ rb.z ra.z) = cmpZ ra.z rb.z := by
    have h := cmpZ_bound rb.z ra.z
    rw [IntWalk.i64_in _ (by omega), ← cmpZ_turn]
  have KA := K.drew
  go_region_held3 (fun w' => w'.cell? ⟨g4, 0, none⟩ = some (.bool rs.s) ∧ w'.cell? ⟨g4, 1, none⟩ = some (.slice rs.A rs.n rs.c) ∧ w'.cell? ⟨g3, 0, none⟩ = some (.bool rm.s) ∧ w'.cell? ⟨g3, 1, none⟩ = some (.slice rm.A rm.n rm.c) ∧ w'.cell? ⟨g2, 0, none⟩ = some (.bool re.s) ∧ w'.cell? ⟨g2, 1, none⟩ = some (.slice re.A re.n re.c) ∧ w'.cell? ⟨g1, 0, none⟩ = some (.bool rd.s) ∧ w'.cell? ⟨g1, 1, none⟩ = some (.slice rd.A rd.n rd.c) ∧ w'.cell? ⟨q, 0, none⟩ = some (.bool rb.s) ∧ w'.cell? ⟨q, 1, none⟩ = some (.slice rb.A rb.n rb.c) ∧ w'.cell? ⟨p, 0, none⟩ = some (.bool ra.s) ∧ w'.cell? ⟨p, 1, none⟩ = some (.slice ra.A ra.n ra.c))
    (first | exact ⟨K.c0 (g := g4) (r := rs) (by simp), K.c1 (g := g4) (r := rs) (by simp), K.c0 (g := g3) (r := rm) (by simp), K.c1 (g := g3) (r := rm) (by simp), K.c0 (g := g2) (r := re) (by simp), K.c1 (g := g2) (r := re) (by simp), K.c0 (g := g1) (r := rd) (by simp), K.c1 (g := g1) (r := rd) (by simp), K.c0 (g := q) (r := rb) (by simp), K.c1 (g := q) (r := rb) (by simp), K.c0 (g := p) (r := ra) (by simp), K.c1 (g := p) (r := ra) (by simp)⟩ | exact ⟨KA.c0 (g := g4) (r := rs) (by simp), KA.c1 (g := g4) (r := rs) (by simp), KA.c0 (g := g3) (r := rm) (by simp), KA.c1 (g := g3) (r := rm) (by simp), KA.c0 (g := g2) (r := re) (by simp), KA.c1 (g := g2) (r := re) (by simp), KA.c0 (g := g1) (r := rd) (by simp), KA.c1 (g := g1) (r := rd) (by simp), KA.c0 (g := q) (r := rb) (by simp), KA.c1 (g := q) (r := rb) (by simp), KA.c0 (g := p) (r := ra) (by simp), KA.c1 (g := p) (r := ra) (by simp)⟩)
    (first
      | (go_at_call 19; refine (neg_r _ _ (KA.nt _ (by simp))).mono ?_; rintro e v ⟨r, rfl, hz, hn, hy, hbv⟩; have KA := (KA.below hbv).push hn hy)
      | (go_at_call 20; refine (same_r _ _ _ (KA.nt _ (by simp)) (KA.nt _ (by simp))).mono ?_; rintro e v ⟨rfl, hbv⟩; have KA := KA.below hbv)
      | (go_at_call 21; refine (cmp_r _ _ _ (KA.nt _ (by simp)) (KA.nt _ (by simp))).mono ?_; rintro e v ⟨rfl, hbv⟩; have KA := KA.below hbv)
      | (go_at_call 26; refine (of_r _ 0 (by decide) (by decide)).mono ?_; rintro e v ⟨r, rfl, hz, hn, hy, hbv⟩; have KA := (KA.below hbv).push hn hy)
      | (go_at_call 9; refine (awake_any _).mono ?_; rintro e v ⟨rfl, hbv⟩; have KA := KA.below hbv))
  go_wp2
  go_ret
  exact ⟨rfl, KA.bl⟩

end Go.Proofs.Ytlmojomnebjhaaa
