/-
  beehivelaw1.NumRing RETURNS TRUE AT NUMBERS THAT MAY BE, OF AT MOST TWO LIMBS: its walk.
-/
import Derived.Test.YtlmojomnebjhaaaLawMirrB
namespace Go.Proofs.Ytlmojomnebjhaaa
open Go.RowKit

theorem two_limbs {w : World} {r : NumR} (h : Nt w r) (hn : r.n ≤ 2) : r.z.natAbs < 18446744073709551616 := by
  have h1 := (Lm.digits_length r.z.natAbs 2).1 (by rw [h.1.1.1.1]; exact hn)
  exact h1
theorem mul_two {x y : Int} (hx : x.natAbs < 36893488147419103232) (hy : y.natAbs < 36893488147419103232) : (x * y).natAbs < 1361129467683753853853498429727072845824 := by
  rw [Int.natAbs_mul]
  have h : x.natAbs * y.natAbs ≤ 36893488147419103231 * 36893488147419103231 := Nat.mul_le_mul (by omega) (by omega)
  omega
theorem Lm.top_huge : 11692013098647223345629478661730264157247460343808 < Lm.top := by decide

section
variable (w : World) (r r' : NumR) (z : Int) (h : Nt w r) (h' : Nt w r')
include h h'
theorem ring_add (e : r.z + r'.z = z) (ht : z.natAbs < Lm.top) : Calls Try.prog 11 #[.agg #[.bool r.s, .slice r.A r.n r.c], .agg #[.bool r'.s, .slice r'.A r'.n r'.c]] w (RetNumB w z true) := by
  have h1 := add_r w r r' h h'
  rw [e, clip_small ht, fits_small ht] at h1
  exact h1
theorem ring_sub (e : r.z - r'.z = z) (ht : z.natAbs < Lm.top) : Calls Try.prog 12 #[.agg #[.bool r.s, .slice r.A r.n r.c], .agg #[.bool r'.s, .slice r'.A r'.n r'.c]] w (RetNumB w z true) := by
  have h1 := sub_r w r r' h h'
  rw [e, clip_small ht, fits_small ht] at h1
  exact h1
theorem ring_mul (e : r.z * r'.z = z) (ht : z.natAbs < Lm.top) : Calls Try.prog 13 #[.agg #[.bool r.s, .slice r.A r.n r.c], .agg #[.bool r'.s, .slice r'.A r'.n r'.c]] w (RetNumB w z true) := by
  have h1 := mul_r w r r' h h'
  rw [e, clip_small ht, fits_small ht] at h1
  exact h1
end

set_option maxRecDepth 100000 in
set_option maxHeartbeats 4000000 in
theorem numRing_yes (w : World) (ra rb rc : NumR) (ha : Nt w ra) (hb : Nt w rb) (hc : Nt w rc) (na : ra.n ≤ 2) (nb : rb.n ≤ 2) (nc : rc.n ≤ 2) :
    Calls Try.prog 4 #[.agg #[.bool ra.s, .slice ra.A ra.n ra.c], .agg #[.bool rb.s, .slice rb.A rb.n rb.c], .agg #[.bool rc.s, .slice rc.A rc.n rc.c]] w fun e w' => e = .returned (.bool true) ∧ Below w.heap.size w w' := by
  have K0 : Env w [ra, rb, rc] [] w := ⟨Below.refl _ _, fun r hr => by simp at hr; rcases hr with rfl | rfl | rfl <;> assumption, fun r hr => by simp at hr; rcases hr with rfl | rfl | rfl <;> exact Nt.sep (by assumption), fun x hx => by simp at hx⟩
  have K := ((K0.new ra).new rb).new rc
  simp only [World.size_alloc] at K
  have ta := two_limbs ha na
  have tb := two_limbs hb nb
  have tc := two_limbs hc nc
  have da : decide ((2 : Int) < (ra.n : Int)) = false := by rw [decide_eq_false_iff_not]; omega
  have db : decide ((2 : Int) < (rb.n : Int)) = false := by rw [decide_eq_false_iff_not]; omega
  have dc : decide ((2 : Int) < (rc.n : Int)) = false := by rw [decide_eq_false_iff_not]; omega
  have hu := Lm.top_huge
  have b1 := Lib.hid (show (ra.z + rb.z).natAbs < Lm.top by omega)
  have b2 := Lib.hid (show (rb.z + ra.z).natAbs < Lm.top by omega)
  have b3 := Lib.hid (show (ra.z + rb.z + rc.z).natAbs < Lm.top by omega)
  have b4 := Lib.hid (show (rb.z + rc.z).natAbs < Lm.top by omega)
  have b5 := Lib.hid (show (ra.z + (rb.z + rc.z)).natAbs < Lm.top by omega)
  have p1 := mul_two (x := ra.z) (y := rb.z + rc.z) (by omega) (by omega)
  have p2 := mul_two (x := ra.z) (y := rb.z) (by omega) (by omega)
  have p3 := mul_two (x := ra.z) (y := rc.z) (by omega) (by omega)
  have p4 := mul_two (x := rb.z) (y := ra.z) (by omega) (by omega)
  have b6 := Lib.hid (show (ra.z * (rb.z + rc.z)).natAbs < Lm.top by omega)
  have b7 := Lib.hid (show (ra.z * rb.z).natAbs < Lm.top by omega)
  have b8 := Lib.hid (show (ra.z * rc.z).natAbs < Lm.top by omega)
  have b9 := Lib.hid (show (ra.z * rb.z + ra.z * rc.z).natAbs < Lm.top by omega)
  have b10 := Lib.hid (show (ra.z + rb.z - rb.z).natAbs < Lm.top by omega)
  have b11 := Lib.hid (show (rb.z * ra.z).natAbs < Lm.top by omega)
  clear K0 ha hb hc na nb nc ta tb tc hu p1 p2 p3 p4
  go_enter Try.func4, Try.ntmps4
  go_wp2_with fail
  obtain ⟨p, hp⟩ : ∃ p, p = w.heap.size := ⟨_, rfl⟩
  obtain ⟨q, hq⟩ : ∃ q, q = w.heap.size + 1 := ⟨_, rfl⟩
  obtain ⟨o, ho⟩ : ∃ o, o = w.heap.size + 1 + 1 := ⟨_, rfl⟩
  generalize (((w.alloc (.cells #[.bool ra.s, .slice ra.A ra.n ra.c] 24)).alloc (.cells #[.bool rb.s, .slice rb.A rb.n rb.c] 24)).alloc (.cells #[.bool rc.s, .slice rc.A rc.n rc.c] 24)) = W at *
  rw [← ho, ← hq, ← hp] at K ⊢
  clear hp hq ho
  have c0a := K.c0 (g := o) (r := rc) (by simp)
  have c0b := K.c1 (g := o) (r := rc) (by simp)
  have c1a := K.c0 (g := q) (r := rb) (by simp)
  have c1b := K.c1 (g := q) (r := rb) (by simp)
  have c2a := K.c0 (g := p) (r := ra) (by simp)
  have c2b := K.c1 (g := p) (r := ra) (by simp)
  refine (great_r _ ra (K.nt _ (by simp))).mono ?_
  rintro e wn ⟨rfl, hbn⟩
  replace K := K.below hbn
  clear c0a c0b c1a c1b c2a c2b
  have c0a := K.c0 (g := o) (r := rc) (by simp)
  have c0b := K.c1 (g := o) (r := rc) (by simp)
  have c1a := K.c0 (g := q) (r := rb) (by simp)
  have c1b := K.c1 (g := q) (r := rb) (by simp)
  have c2a := K.c0 (g := p) (r := ra) (by simp)
  have c2b := K.c1 (g := p) (r := ra) (by simp)
  go_wp2_with fail
  refine (great_r _ rb (K.nt _ (by simp))).mono ?_
  rintro e wn ⟨rfl, hbn⟩
  replace K := K.below hbn
  clear c0a c0b c1a c1b c2a c2b
  have c0a := K.c0 (g := o) (r := rc) (by simp)
  have c0b := K.c1 (g := o) (r := rc) (by simp)
  have c1a := K.c0 (g := q) (r := rb) (by simp)
  have c1b := K.c1 (g := q) (r := rb) (by simp)
  have c2a := K.c0 (g := p) (r := ra) (by simp)
  have c2b := K.c1 (g := p) (r := ra) (by simp)
  go_wp2_with fail
  refine (great_r _ rc (K.nt _ (by simp))).mono ?_
  rintro e wn ⟨rfl, hbn⟩
  replace K := K.below hbn
  clear c0a c0b c1a c1b c2a c2b
  have c0a := K.c0 (g := o) (r := rc) (by simp)
  have c0b := K.c1 (g := o) (r := rc) (by simp)
  have c1a := K.c0 (g := q) (r := rb) (by simp)
  have c1b := K.c1 (g := q) (r := rb) (by simp)
  have c2a := K.c0 (g := p) (r := ra) (by simp)
  have c2b := K.c1 (g := p) (r := ra) (by simp)
  go_wp2_with fail
  refine (may_r _ ra (K.nt _ (by simp))).mono ?_
  rintro e wn ⟨rfl, hbn⟩
  replace K := K.below hbn
  clear c0a c0b c1a c1b c2a c2b
  have c0a := K.c0 (g := o) (r := rc) (by simp)
  have c0b := K.c1 (g := o) (r := rc) (by simp)
  have c1a := K.c0 (g := q) (r := rb) (by simp)
  have c1b := K.c1 (g := q) (r := rb) (by simp)
  have c2a := K.c0 (g := p) (r := ra) (by simp)
  have c2b := K.c1 (g := p) (r := ra) (by simp)
  go_wp2_with fail
  refine (may_r _ rb (K.nt _ (by simp))).mono ?_
  rintro e wn ⟨rfl, hbn⟩
  replace K := K.below hbn
  clear c0a c0b c1a c1b c2a c2b
  have c0a := K.c0 (g := o) (r := rc) (by simp)
  have c0b := K.c1 (g := o) (r := rc) (by simp)
  have c1a := K.c0 (g := q) (r := rb) (by simp)
  have c1b := K.c1 (g := q) (r := rb) (by simp)
  have c2a := K.c0 (g := p) (r := ra) (by simp)
  have c2b := K.c1 (g := p) (r := ra) (by simp)
  go_wp2_with fail
  refine (may_r _ rc (K.nt _ (by simp))).mono ?_
  rintro e wn ⟨rfl, hbn⟩
  replace K := K.below hbn
  clear c0a c0b c1a c1b c2a c2b
  have c0a := K.c0 (g := o) (r := rc) (by simp)
  have c0b := K.c1 (g := o) (r := rc) (by simp)
  have c1a := K.c0 (g := q) (r := rb) (by simp)
  have c1b := K.c1 (g := q) (r := rb) (by simp)
  have c2a := K.c0 (g := p) (r := ra) (by simp)
  have c2b := K.c1 (g := p) (r := ra) (by simp)
  go_upto_region 3 with fail
  go_cut [7, 8] (fun t1 t2 wx => ∃ (g1 : Nat) (rab : NumR), t1 = .pointer (some ⟨g1, 0, none⟩) ∧ t2 = .bool (true) ∧ rab.z = ra.z + rb.z ∧ Env w [rab, ra, rb, rc] [(g1, rab), (o, rc), (q, rb), (p, ra)] wx)
  case first =>
    go_wp2_with fail
    refine (ring_add _ ra rb (ra.z + rb.z) (K.nt _ (by simp)) (K.nt _ (by simp)) (by rfl) b1.out).mono ?_
    rintro e wn ⟨r, rfl, hz, hn, hy, hbn⟩
    have Hz := Lib.hid hz
    clear hz
    go_wp2
    go_meet
    exact ⟨_, r, rfl, rfl, Hz.out, ((K.below hbn).push hn hy).new r⟩
  obtain ⟨g1, rab, rfl, rfl, hzrab0, KN⟩ := hcut
  have hzrab := Lib.hid hzrab0
  clear c0a c0b c1a c1b c2a c2b
  clear K hzrab0
  have K := KN
  clear KN
  have c0a := K.c0 (g := g1) (r := rab) (by simp)
  have c0b := K.c1 (g := g1) (r := rab) (by simp)
  have c1a := K.c0 (g := o) (r := rc) (by simp)
  have c1b := K.c1 (g := o) (r := rc) (by simp)
  have c2a := K.c0 (g := q) (r := rb) (by simp)
  have c2b := K.c1 (g := q) (r := rb) (by simp)
  have c3a := K.c0 (g := p) (r := ra) (by simp)
  have c3b := K.c1 (g := p) (r := ra) (by simp)
  go_upto_region 4 with fail
  go_cut [9, 10] (fun t1 t2 wx => ∃ (g2 : Nat) (rba : NumR), t1 = .pointer (some ⟨g2, 0, none⟩) ∧ t2 = .bool (true) ∧ rba.z = rb.z + ra.z ∧ Env w [rba, rab, ra, rb, rc] [(g2, rba), (g1, rab), (o, rc), (q, rb), (p, ra)] wx)
  case first =>
    go_wp2_with fail
    refine (ring_add _ rb ra (rb.z + ra.z) (K.nt _ (by simp)) (K.nt _ (by simp)) (by rfl) b2.out).mono ?_
    rintro e wn ⟨r, rfl, hz, hn, hy, hbn⟩
    have Hz := Lib.hid hz
    clear hz
    go_wp2
    go_meet
    exact ⟨_, r, rfl, rfl, Hz.out, ((K.below hbn).push hn hy).new r⟩
  obtain ⟨g2, rba, rfl, rfl, hzrba0, KN⟩ := hcut
  have hzrba := Lib.hid hzrba0
  clear c0a c0b c1a c1b c2a c2b c3a c3b
  clear K hzrba0
  have K := KN
  clear KN
  have c0a := K.c0 (g := g2) (r := rba) (by simp)
  have c0b := K.c1 (g := g2) (r := rba) (by simp)
  have c1a := K.c0 (g := g1) (r := rab) (by simp)
  have c1b := K.c1 (g := g1) (r := rab) (by simp)
  have c2a := K.c0 (g := o) (r := rc) (by simp)
  have c2b := K.c1 (g := o) (r := rc) (by simp)
  have c3a := K.c0 (g := q) (r := rb) (by simp)
  have c3b := K.c1 (g := q) (r := rb) (by simp)
  have c4a := K.c0 (g := p) (r := ra) (by simp)
  have c4b := K.c1 (g := p) (r := ra) (by simp)
  go_upto_region 5 with fail
  go_cut [11, 12] (fun t1 t2 wx => ∃ (g3 : Nat) (rx : NumR), t1 = .pointer (some ⟨g3, 0, none⟩) ∧ t2 = .bool (true) ∧ rx.z = ra.z + rb.z + rc.z ∧ Env w [rx, rba, rab, ra, rb, rc] [(g3, rx), (g2, rba), (g1, rab), (o, rc), (q, rb), (p, ra)] wx)
  case first =>
    go_wp2_with fail
    refine (ring_add _ rab rc (ra.z + rb.z + rc.z) (K.nt _ (by simp)) (K.nt _ (by simp)) (by rw [hzrab.out]) b3.out).mono ?_
    rintro e wn ⟨r, rfl, hz, hn, hy, hbn⟩
    have Hz := Lib.hid hz
    clear hz
    go_wp2
    go_meet
    exact ⟨_, r, rfl, rfl, Hz.out, ((K.below hbn).push hn hy).new r⟩
  obtain ⟨g3, rx, rfl, rfl, hzrx0, KN⟩ := hcut
  have hzrx := Lib.hid hzrx0
  clear c0a c0b c1a c1b c2a c2b c3a c3b c4a c4b
  clear K hzrx0
  have K := KN
  clear KN
  have c0a := K.c0 (g := g3) (r := rx) (by simp)
  have c0b := K.c1 (g := g3) (r := rx) (by simp)
  have c1a := K.c0 (g := g2) (r := rba) (by simp)
  have c1b := K.c1 (g := g2) (r := rba) (by simp)
  have c2a := K.c0 (g := g1) (r := rab) (by simp)
  have c2b := K.c1 (g := g1) (r := rab) (by simp)
  have c3a := K.c0 (g := o) (r := rc) (by simp)
  have c3b := K.c1 (g := o) (r := rc) (by simp)
  have c4a := K.c0 (g := q) (r := rb) (by simp)
  have c4b := K.c1 (g := q) (r := rb) (by simp)
  have c5a := K.c0 (g := p) (r := ra) (by simp)
  have c5b := K.c1 (g := p) (r := ra) (by simp)
  go_upto_region 6 with fail
  go_cut [13, 14] (fun t1 t2 wx => ∃ (g4 : Nat) (rbc : NumR), t1 = .pointer (some ⟨g4, 0, none⟩) ∧ t2 = .bool (true) ∧ rbc.z = rb.z + rc.z ∧ Env w [rbc, rx, rba, rab, ra, rb, rc] [(g4, rbc), (g3, rx), (g2, rba), (g1, rab), (o, rc), (q, rb), (p, ra)] wx)
  case first =>
    go_wp2_with fail
    refine (ring_add _ rb rc (rb.z + rc.z) (K.nt _ (by simp)) (K.nt _ (by simp)) (by rfl) b4.out).mono ?_
    rintro e wn ⟨r, rfl, hz, hn, hy, hbn⟩
    have Hz := Lib.hid hz
    clear hz
    go_wp2
    go_meet
    exact ⟨_, r, rfl, rfl, Hz.out, ((K.below hbn).push hn hy).new r⟩
  obtain ⟨g4, rbc, rfl, rfl, hzrbc0, KN⟩ := hcut
  have hzrbc := Lib.hid hzrbc0
  clear c0a c0b c1a c1b c2a c2b c3a c3b c4a c4b c5a c5b
  clear K hzrbc0
  have K := KN
  clear KN
  have c0a := K.c0 (g := g4) (r := rbc) (by simp)
  have c0b := K.c1 (g := g4) (r := rbc) (by simp)
  have c1a := K.c0 (g := g3) (r := rx) (by simp)
  have c1b := K.c1 (g := g3) (r := rx) (by simp)
  have c2a := K.c0 (g := g2) (r := rba) (by simp)
  have c2b := K.c1 (g := g2) (r := rba) (by simp)
  have c3a := K.c0 (g := g1) (r := rab) (by simp)
  have c3b := K.c1 (g := g1) (r := rab) (by simp)
  have c4a := K.c0 (g := o) (r := rc) (by simp)
  have c4b := K.c1 (g := o) (r := rc) (by simp)
  have c5a := K.c0 (g := q) (r := rb) (by simp)
  have c5b := K.c1 (g := q) (r := rb) (by simp)
  have c6a := K.c0 (g := p) (r := ra) (by simp)
  have c6b := K.c1 (g := p) (r := ra) (by simp)
  go_upto_region 7 with fail
  go_cut [15, 16] (fun t1 t2 wx => ∃ (g5 : Nat) (ry : NumR), t1 = .pointer (some ⟨g5, 0, none⟩) ∧ t2 = .bool (true) ∧ ry.z = ra.z + (rb.z + rc.z) ∧ Env w [ry, rbc, rx, rba, rab, ra, rb, rc] [(g5, ry), (g4, rbc), (g3, rx), (g2, rba), (g1, rab), (o, rc), (q, rb), (p, ra)] wx)
  case first =>
    go_wp2_with fail
    refine (ring_add _ ra rbc (ra.z + (rb.z + rc.z)) (K.nt _ (by simp)) (K.nt _ (by simp)) (by rw [hzrbc.out]) b5.out).mono ?_
    rintro e wn ⟨r, rfl, hz, hn, hy, hbn⟩
    have Hz := Lib.hid hz
    clear hz
    go_wp2
    go_meet
    exact ⟨_, r, rfl, rfl, Hz.out, ((K.below hbn).push hn hy).new r⟩
  obtain ⟨g5, ry, rfl, rfl, hzry0, KN⟩ := hcut
  have hzry := Lib.hid hzry0
  clear c0a c0b c1a c1b c2a c2b c3a c3b c4a c4b c5a c5b c6a c6b
  clear K hzry0
  have K := KN
  clear KN
  have c0a := K.c0 (g := g5) (r := ry) (by simp)
  have c0b := K.c1 (g := g5) (r := ry) (by simp)
  have c1a := K.c0 (g := g4) (r := rbc) (by simp)
  have c1b := K.c1 (g := g4) (r := rbc) (by simp)
  have c2a := K.c0 (g := g3) (r := rx) (by simp)
  have c2b := K.c1 (g := g3) (r := rx) (by simp)
  have c3a := K.c0 (g := g2) (r := rba) (by simp)
  have c3b := K.c1 (g := g2) (r := rba) (by simp)
  have c4a := K.c0 (g := g1) (r := rab) (by simp)
  have c4b := K.c1 (g := g1) (r := rab) (by simp)
  have c5a := K.c0 (g := o) (r := rc) (by simp)
  have c5b := K.c1 (g := o) (r := rc) (by simp)
  have c6a := K.c0 (g := q) (r := rb) (by simp)
  have c6b := K.c1 (g := q) (r := rb) (by simp)
  have c7a := K.c0 (g := p) (r := ra) (by simp)
  have c7b := K.c1 (g := p) (r := ra) (by simp)
  go_upto_region 8 with fail
  go_cut [17, 18] (fun t1 t2 wx => ∃ (g6 : Nat) (rm : NumR), t1 = .pointer (some ⟨g6, 0, none⟩) ∧ t2 = .bool (true) ∧ rm.z = ra.z * (rb.z + rc.z) ∧ Env w [rm, ry, rbc, rx, rba, rab, ra, rb, rc] [(g6, rm), (g5, ry), (g4, rbc), (g3, rx), (g2, rba), (g1, rab), (o, rc), (q, rb), (p, ra)] wx)
  case first =>
    go_wp2_with fail
    refine (ring_mul _ ra rbc (ra.z * (rb.z + rc.z)) (K.nt _ (by simp)) (K.nt _ (by simp)) (by rw [hzrbc.out]) b6.out).mono ?_
    rintro e wn ⟨r, rfl, hz, hn, hy, hbn⟩
    have Hz := Lib.hid hz
    clear hz
    go_wp2
    go_meet
    exact ⟨_, r, rfl, rfl, Hz.out, ((K.below hbn).push hn hy).new r⟩
  obtain ⟨g6, rm, rfl, rfl, hzrm0, KN⟩ := hcut
  have hzrm := Lib.hid hzrm0
  clear c0a c0b c1a c1b c2a c2b c3a c3b c4a c4b c5a c5b c6a c6b c7a c7b
  clear K hzrm0
  have K := KN
  clear KN
  have c0a := K.c0 (g := g6) (r := rm) (by simp)
  have c0b := K.c1 (g := g6) (r := rm) (by simp)
  have c1a := K.c0 (g := g5) (r := ry) (by simp)
  have c1b := K.c1 (g := g5) (r := ry) (by simp)
  have c2a := K.c0 (g := g4) (r := rbc) (by simp)
  have c2b := K.c1 (g := g4) (r := rbc) (by simp)
  have c3a := K.c0 (g := g3) (r := rx) (by simp)
  have c3b := K.c1 (g := g3) (r := rx) (by simp)
  have c4a := K.c0 (g := g2) (r := rba) (by simp)
  have c4b := K.c1 (g := g2) (r := rba) (by simp)
  have c5a := K.c0 (g := g1) (r := rab) (by simp)
  have c5b := K.c1 (g := g1) (r := rab) (by simp)
  have c6a := K.c0 (g := o) (r := rc) (by simp)
  have c6b := K.c1 (g := o) (r := rc) (by simp)
  have c7a := K.c0 (g := q) (r := rb) (by simp)
  have c7b := K.c1 (g := q) (r := rb) (by simp)
  have c8a := K.c0 (g := p) (r := ra) (by simp)
  have c8b := K.c1 (g := p) (r := ra) (by simp)
  go_upto_region 9 with fail
  go_cut [19, 20] (fun t1 t2 wx => ∃ (g7 : Nat) (rs : NumR), t1 = .pointer (some ⟨g7, 0, none⟩) ∧ t2 = .bool (true) ∧ rs.z = ra.z * rb.z ∧ Env w [rs, rm, ry, rbc, rx, rba, rab, ra, rb, rc] [(g7, rs), (g6, rm), (g5, ry), (g4, rbc), (g3, rx), (g2, rba), (g1, rab), (o, rc), (q, rb), (p, ra)] wx)
  case first =>
    go_wp2_with fail
    refine (ring_mul _ ra rb (ra.z * rb.z) (K.nt _ (by simp)) (K.nt _ (by simp)) (by rfl) b7.out).mono ?_
    rintro e wn ⟨r, rfl, hz, hn, hy, hbn⟩
    have Hz := Lib.hid hz
    clear hz
    go_wp2
    go_meet
    exact ⟨_, r, rfl, rfl, Hz.out, ((K.below hbn).push hn hy).new r⟩
  obtain ⟨g7, rs, rfl, rfl, hzrs0, KN⟩ := hcut
  have hzrs := Lib.hid hzrs0
  clear c0a c0b c1a c1b c2a c2b c3a c3b c4a c4b c5a c5b c6a c6b c7a c7b c8a c8b
  clear K hzrs0
  have K := KN
  clear KN
  have c0a := K.c0 (g := g7) (r := rs) (by simp)
  have c0b := K.c1 (g := g7) (r := rs) (by simp)
  have c1a := K.c0 (g := g6) (r := rm) (by simp)
  have c1b := K.c1 (g := g6) (r := rm) (by simp)
  have c2a := K.c0 (g := g5) (r := ry) (by simp)
  have c2b := K.c1 (g := g5) (r := ry) (by simp)
  have c3a := K.c0 (g := g4) (r := rbc) (by simp)
  have c3b := K.c1 (g := g4) (r := rbc) (by simp)
  have c4a := K.c0 (g := g3) (r := rx) (by simp)
  have c4b := K.c1 (g := g3) (r := rx) (by simp)
  have c5a := K.c0 (g := g2) (r := rba) (by simp)
  have c5b := K.c1 (g := g2) (r := rba) (by simp)
  have c6a := K.c0 (g := g1) (r := rab) (by simp)
  have c6b := K.c1 (g := g1) (r := rab) (by simp)
  have c7a := K.c0 (g := o) (r := rc) (by simp)
  have c7b := K.c1 (g := o) (r := rc) (by simp)
  have c8a := K.c0 (g := q) (r := rb) (by simp)
  have c8b := K.c1 (g := q) (r := rb) (by simp)
  have c9a := K.c0 (g := p) (r := ra) (by simp)
  have c9b := K.c1 (g := p) (r := ra) (by simp)
  go_upto_region 10 with fail
  go_cut [21, 22] (fun t1 t2 wx => ∃ (g8 : Nat) (rt : NumR), t1 = .pointer (some ⟨g8, 0, none⟩) ∧ t2 = .bool (true) ∧ rt.z = ra.z * rc.z ∧ Env w [rt, rs, rm, ry, rbc, rx, rba, rab, ra, rb, rc] [(g8, rt), (g7, rs), (g6, rm), (g5, ry), (g4, rbc), (g3, rx), (g2, rba), (g1, rab), (o, rc), (q, rb), (p, ra)] wx)
  case first =>
    go_wp2_with fail
    refine (ring_mul _ ra rc (ra.z * rc.z) (K.nt _ (by simp)) (K.nt _ (by simp)) (by rfl) b8.out).mono ?_
    rintro e wn ⟨r, rfl, hz, hn, hy, hbn⟩
    have Hz := Lib.hid hz
    clear hz
    go_wp2
    go_meet
    exact ⟨_, r, rfl, rfl, Hz.out, ((K.below hbn).push hn hy).new r⟩
  obtain ⟨g8, rt, rfl, rfl, hzrt0, KN⟩ := hcut
  have hzrt := Lib.hid hzrt0
  clear c0a c0b c1a c1b c2a c2b c3a c3b c4a c4b c5a c5b c6a c6b c7a c7b c8a c8b c9a c9b
  clear K hzrt0
  have K := KN
  clear KN
  have c0a := K.c0 (g := g8) (r := rt) (by simp)
  have c0b := K.c1 (g := g8) (r := rt) (by simp)
  have c1a := K.c0 (g := g7) (r := rs) (by simp)
  have c1b := K.c1 (g := g7) (r := rs) (by simp)
  have c2a := K.c0 (g := g6) (r := rm) (by simp)
  have c2b := K.c1 (g := g6) (r := rm) (by simp)
  have c3a := K.c0 (g := g5) (r := ry) (by simp)
  have c3b := K.c1 (g := g5) (r := ry) (by simp)
  have c4a := K.c0 (g := g4) (r := rbc) (by simp)
  have c4b := K.c1 (g := g4) (r := rbc) (by simp)
  have c5a := K.c0 (g := g3) (r := rx) (by simp)
  have c5b := K.c1 (g := g3) (r := rx) (by simp)
  have c6a := K.c0 (g := g2) (r := rba) (by simp)
  have c6b := K.c1 (g := g2) (r := rba) (by simp)
  have c7a := K.c0 (g := g1) (r := rab) (by simp)
  have c7b := K.c1 (g := g1) (r := rab) (by simp)
  have c8a := K.c0 (g := o) (r := rc) (by simp)
  have c8b := K.c1 (g := o) (r := rc) (by simp)
  have c9a := K.c0 (g := q) (r := rb) (by simp)
  have c9b := K.c1 (g := q) (r := rb) (by simp)
  have c10a := K.c0 (g := p) (r := ra) (by simp)
  have c10b := K.c1 (g := p) (r := ra) (by simp)
  go_upto_region 11 with fail
  go_cut [23, 24] (fun t1 t2 wx => ∃ (g9 : Nat) (rn : NumR), t1 = .pointer (some ⟨g9, 0, none⟩) ∧ t2 = .bool (true) ∧ rn.z = ra.z * rb.z + ra.z * rc.z ∧ Env w [rn, rt, rs, rm, ry, rbc, rx, rba, rab, ra, rb, rc] [(g9, rn), (g8, rt), (g7, rs), (g6, rm), (g5, ry), (g4, rbc), (g3, rx), (g2, rba), (g1, rab), (o, rc), (q, rb), (p, ra)] wx)
  case first =>
    go_wp2_with fail
    refine (ring_add _ rs rt (ra.z * rb.z + ra.z * rc.z) (K.nt _ (by simp)) (K.nt _ (by simp)) (by rw [hzrs.out, hzrt.out]) b9.out).mono ?_
    rintro e wn ⟨r, rfl, hz, hn, hy, hbn⟩
    have Hz := Lib.hid hz
    clear hz
    go_wp2
    go_meet
    exact ⟨_, r, rfl, rfl, Hz.out, ((K.below hbn).push hn hy).new r⟩
  obtain ⟨g9, rn, rfl, rfl, hzrn0, KN⟩ := hcut
  have hzrn := Lib.hid hzrn0
  clear c0a c0b c1a c1b c2a c2b c3a c3b c4a c4b c5a c5b c6a c6b c7a c7b c8a c8b c9a c9b c10a c10b
  clear K hzrn0
  have K := KN
  clear KN
  have c0a := K.c0 (g := g9) (r := rn) (by simp)
  have c0b := K.c1 (g := g9) (r := rn) (by simp)
  have c1a := K.c0 (g := g8) (r := rt) (by simp)
  have c1b := K.c1 (g := g8) (r := rt) (by simp)
  have c2a := K.c0 (g := g7) (r := rs) (by simp)
  have c2b := K.c1 (g := g7) (r := rs) (by simp)
  have c3a := K.c0 (g := g6) (r := rm) (by simp)
  have c3b := K.c1 (g := g6) (r := rm) (by simp)
  have c4a := K.c0 (g := g5) (r := ry) (by simp)
  have c4b := K.c1 (g := g5) (r := ry) (by simp)
  have c5a := K.c0 (g := g4) (r := rbc) (by simp)
  have c5b := K.c1 (g := g4) (r := rbc) (by simp)
  have c6a := K.c0 (g := g3) (r := rx) (by simp)
  have c6b := K.c1 (g := g3) (r := rx) (by simp)
  have c7a := K.c0 (g := g2) (r := rba) (by simp)
  have c7b := K.c1 (g := g2) (r := rba) (by simp)
  have c8a := K.c0 (g := g1) (r := rab) (by simp)
  have c8b := K.c1 (g := g1) (r := rab) (by simp)
  have c9a := K.c0 (g := o) (r := rc) (by simp)
  have c9b := K.c1 (g := o) (r := rc) (by simp)
  have c10a := K.c0 (g := q) (r := rb) (by simp)
  have c10b := K.c1 (g := q) (r := rb) (by simp)
  have c11a := K.c0 (g := p) (r := ra) (by simp)
  have c11b := K.c1 (g := p) (r := ra) (by simp)
  go_upto_region 12 with fail
  go_cut [25, 26] (fun t1 t2 wx => ∃ (g10 : Nat) (rd : NumR), t1 = .pointer (some ⟨g10, 0, none⟩) ∧ t2 = .bool (true) ∧ rd.z = ra.z + rb.z - rb.z ∧ Env w [rd, rn, rt, rs, rm, ry, rbc, rx, rba, rab, ra, rb, rc] [(g10, rd), (g9, rn), (g8, rt), (g7, rs), (g6, rm), (g5, ry), (g4, rbc), (g3, rx), (g2, rba), (g1, rab), (o, rc), (q, rb), (p, ra)] wx)
  case first =>
    go_wp2_with fail
    refine (ring_sub _ rab rb (ra.z + rb.z - rb.z) (K.nt _ (by simp)) (K.nt _ (by simp)) (by rw [hzrab.out]) b10.out).mono ?_
    rintro e wn ⟨r, rfl, hz, hn, hy, hbn⟩
    have Hz := Lib.hid hz
    clear hz
    go_wp2
    go_meet
    exact ⟨_, r, rfl, rfl, Hz.out, ((K.below hbn).push hn hy).new r⟩
  obtain ⟨g10, rd, rfl, rfl, hzrd0, KN⟩ := hcut
  have hzrd := Lib.hid hzrd0
  clear c0a c0b c1a c1b c2a c2b c3a c3b c4a c4b c5a c5b c6a c6b c7a c7b c8a c8b c9a c9b c10a c10b c11a c11b
  clear K hzrd0
  have K := KN
  clear KN
  have c0a := K.c0 (g := g10) (r := rd) (by simp)
  have c0b := K.c1 (g := g10) (r := rd) (by simp)
  have c1a := K.c0 (g := g9) (r := rn) (by simp)
  have c1b := K.c1 (g := g9) (r := rn) (by simp)
  have c2a := K.c0 (g := g8) (r := rt) (by simp)
  have c2b := K.c1 (g := g8) (r := rt) (by simp)
  have c3a := K.c0 (g := g7) (r := rs) (by simp)
  have c3b := K.c1 (g := g7) (r := rs) (by simp)
  have c4a := K.c0 (g := g6) (r := rm) (by simp)
  have c4b := K.c1 (g := g6) (r := rm) (by simp)
  have c5a := K.c0 (g := g5) (r := ry) (by simp)
  have c5b := K.c1 (g := g5) (r := ry) (by simp)
  have c6a := K.c0 (g := g4) (r := rbc) (by simp)
  have c6b := K.c1 (g := g4) (r := rbc) (by simp)
  have c7a := K.c0 (g := g3) (r := rx) (by simp)
  have c7b := K.c1 (g := g3) (r := rx) (by simp)
  have c8a := K.c0 (g := g2) (r := rba) (by simp)
  have c8b := K.c1 (g := g2) (r := rba) (by simp)
  have c9a := K.c0 (g := g1) (r := rab) (by simp)
  have c9b := K.c1 (g := g1) (r := rab) (by simp)
  have c10a := K.c0 (g := o) (r := rc) (by simp)
  have c10b := K.c1 (g := o) (r := rc) (by simp)
  have c11a := K.c0 (g := q) (r := rb) (by simp)
  have c11b := K.c1 (g := q) (r := rb) (by simp)
  have c12a := K.c0 (g := p) (r := ra) (by simp)
  have c12b := K.c1 (g := p) (r := ra) (by simp)
  go_upto_region 13 with fail
  go_cut [27, 28] (fun t1 t2 wx => ∃ (g11 : Nat) (ru : NumR), t1 = .pointer (some ⟨g11, 0, none⟩) ∧ t2 = .bool (true) ∧ ru.z = rb.z * ra.z ∧ Env w [ru, rd, rn, rt, rs, rm, ry, rbc, rx, rba, rab, ra, rb, rc] [(g11, ru), (g10, rd), (g9, rn), (g8, rt), (g7, rs), (g6, rm), (g5, ry), (g4, rbc), (g3, rx), (g2, rba), (g1, rab), (o, rc), (q, rb), (p, ra)] wx)
  case first =>
    go_wp2_with fail
    refine (ring_mul _ rb ra (rb.z * ra.z) (K.nt _ (by simp)) (K.nt _ (by simp)) (by rfl) b11.out).mono ?_
    rintro e wn ⟨r, rfl, hz, hn, hy, hbn⟩
    have Hz := Lib.hid hz
    clear hz
    go_wp2
    go_meet
    exact ⟨_, r, rfl, rfl, Hz.out, ((K.below hbn).push hn hy).new r⟩
  obtain ⟨g11, ru, rfl, rfl, hzru0, KN⟩ := hcut
  have hzru := Lib.hid hzru0
  clear c0a c0b c1a c1b c2a c2b c3a c3b c4a c4b c5a c5b c6a c6b c7a c7b c8a c8b c9a c9b c10a c10b c11a c11b c12a c12b
  clear K hzru0
  have K := KN
  clear KN
  have c0a := K.c0 (g := g11) (r := ru) (by simp)
  have c0b := K.c1 (g := g11) (r := ru) (by simp)
  have c1a := K.c0 (g := g10) (r := rd) (by simp)
  have c1b := K.c1 (g := g10) (r := rd) (by simp)
  have c2a := K.c0 (g := g9) (r := rn) (by simp)
  have c2b := K.c1 (g := g9) (r := rn) (by simp)
  have c3a := K.c0 (g := g8) (r := rt) (by simp)
  have c3b := K.c1 (g := g8) (r := rt) (by simp)
  have c4a := K.c0 (g := g7) (r := rs) (by simp)
  have c4b := K.c1 (g := g7) (r := rs) (by simp)
  have c5a := K.c0 (g := g6) (r := rm) (by simp)
  have c5b := K.c1 (g := g6) (r := rm) (by simp)
  have c6a := K.c0 (g := g5) (r := ry) (by simp)
  have c6b := K.c1 (g := g5) (r := ry) (by simp)
  have c7a := K.c0 (g := g4) (r := rbc) (by simp)
  have c7b := K.c1 (g := g4) (r := rbc) (by simp)
  have c8a := K.c0 (g := g3) (r := rx) (by simp)
  have c8b := K.c1 (g := g3) (r := rx) (by simp)
  have c9a := K.c0 (g := g2) (r := rba) (by simp)
  have c9b := K.c1 (g := g2) (r := rba) (by simp)
  have c10a := K.c0 (g := g1) (r := rab) (by simp)
  have c10b := K.c1 (g := g1) (r := rab) (by simp)
  have c11a := K.c0 (g := o) (r := rc) (by simp)
  have c11b := K.c1 (g := o) (r := rc) (by simp)
  have c12a := K.c0 (g := q) (r := rb) (by simp)
  have c12b := K.c1 (g := q) (r := rb) (by simp)
  have c13a := K.c0 (g := p) (r := ra) (by simp)
  have c13b := K.c1 (g := p) (r := ra) (by simp)
  have e1 : rab.z = ra.z + rb.z := hzrab.out
  have e2 : rba.z = ra.z + rb.z := by rw [hzrba.out, Int.add_comm]
  have e3 : rx.z = ra.z + (rb.z + rc.z) := by rw [hzrx.out, Int.add_assoc]
  have e4 : ry.z = ra.z + (rb.z + rc.z) := hzry.out
  have e5 : rm.z = ra.z * rb.z + ra.z * rc.z := by rw [hzrm.out, Int.mul_add]
  have e6 : rn.z = ra.z * rb.z + ra.z * rc.z := hzrn.out
  have e7 : rd.z = ra.z := by rw [hzrd.out]; omega
  have e8 : rs.z = ra.z * rb.z := hzrs.out
  have e9 : ru.z = ra.z * rb.z := by rw [hzru.out, Int.mul_comm]
  go_wp2_with fail
  refine (same_r _ rab rba (K.nt _ (by simp)) (K.nt _ (by simp))).mono ?_
  rintro e wn ⟨rfl, hbn⟩
  replace K := K.below hbn
  clear c0a c0b c1a c1b c2a c2b c3a c3b c4a c4b c5a c5b c6a c6b c7a c7b c8a c8b c9a c9b c10a c10b c11a c11b c12a c12b c13a c13b
  have c0a := K.c0 (g := g11) (r := ru) (by simp)
  have c0b := K.c1 (g := g11) (r := ru) (by simp)
  have c1a := K.c0 (g := g10) (r := rd) (by simp)
  have c1b := K.c1 (g := g10) (r := rd) (by simp)
  have c2a := K.c0 (g := g9) (r := rn) (by simp)
  have c2b := K.c1 (g := g9) (r := rn) (by simp)
  have c3a := K.c0 (g := g8) (r := rt) (by simp)
  have c3b := K.c1 (g := g8) (r := rt) (by simp)
  have c4a := K.c0 (g := g7) (r := rs) (by simp)
  have c4b := K.c1 (g := g7) (r := rs) (by simp)
  have c5a := K.c0 (g := g6) (r := rm) (by simp)
  have c5b := K.c1 (g := g6) (r := rm) (by simp)
  have c6a := K.c0 (g := g5) (r := ry) (by simp)
  have c6b := K.c1 (g := g5) (r := ry) (by simp)
  have c7a := K.c0 (g := g4) (r := rbc) (by simp)
  have c7b := K.c1 (g := g4) (r := rbc) (by simp)
  have c8a := K.c0 (g := g3) (r := rx) (by simp)
  have c8b := K.c1 (g := g3) (r := rx) (by simp)
  have c9a := K.c0 (g := g2) (r := rba) (by simp)
  have c9b := K.c1 (g := g2) (r := rba) (by simp)
  have c10a := K.c0 (g := g1) (r := rab) (by simp)
  have c10b := K.c1 (g := g1) (r := rab) (by simp)
  have c11a := K.c0 (g := o) (r := rc) (by simp)
  have c11b := K.c1 (g := o) (r := rc) (by simp)
  have c12a := K.c0 (g := q) (r := rb) (by simp)
  have c12b := K.c1 (g := q) (r := rb) (by simp)
  have c13a := K.c0 (g := p) (r := ra) (by simp)
  have c13b := K.c1 (g := p) (r := ra) (by simp)
  go_wp2_with fail
  refine (same_r _ rx ry (K.nt _ (by simp)) (K.nt _ (by simp))).mono ?_
  rintro e wn ⟨rfl, hbn⟩
  replace K := K.below hbn
  clear c0a c0b c1a c1b c2a c2b c3a c3b c4a c4b c5a c5b c6a c6b c7a c7b c8a c8b c9a c9b c10a c10b c11a c11b c12a c12b c13a c13b
  have c0a := K.c0 (g := g11) (r := ru) (by simp)
  have c0b := K.c1 (g := g11) (r := ru) (by simp)
  have c1a := K.c0 (g := g10) (r := rd) (by simp)
  have c1b := K.c1 (g := g10) (r := rd) (by simp)
  have c2a := K.c0 (g := g9) (r := rn) (by simp)
  have c2b := K.c1 (g := g9) (r := rn) (by simp)
  have c3a := K.c0 (g := g8) (r := rt) (by simp)
  have c3b := K.c1 (g := g8) (r := rt) (by simp)
  have c4a := K.c0 (g := g7) (r := rs) (by simp)
  have c4b := K.c1 (g := g7) (r := rs) (by simp)
  have c5a := K.c0 (g := g6) (r := rm) (by simp)
  have c5b := K.c1 (g := g6) (r := rm) (by simp)
  have c6a := K.c0 (g := g5) (r := ry) (by simp)
  have c6b := K.c1 (g := g5) (r := ry) (by simp)
  have c7a := K.c0 (g := g4) (r := rbc) (by simp)
  have c7b := K.c1 (g := g4) (r := rbc) (by simp)
  have c8a := K.c0 (g := g3) (r := rx) (by simp)
  have c8b := K.c1 (g := g3) (r := rx) (by simp)
  have c9a := K.c0 (g := g2) (r := rba) (by simp)
  have c9b := K.c1 (g := g2) (r := rba) (by simp)
  have c10a := K.c0 (g := g1) (r := rab) (by simp)
  have c10b := K.c1 (g := g1) (r := rab) (by simp)
  have c11a := K.c0 (g := o) (r := rc) (by simp)
  have c11b := K.c1 (g := o) (r := rc) (by simp)
  have c12a := K.c0 (g := q) (r := rb) (by simp)
  have c12b := K.c1 (g := q) (r := rb) (by simp)
  have c13a := K.c0 (g := p) (r := ra) (by simp)
  have c13b := K.c1 (g := p) (r := ra) (by simp)
  go_wp2_with fail
  refine (same_r _ rm rn (K.nt _ (by simp)) (K.nt _ (by simp))).mono ?_
  rintro e wn ⟨rfl, hbn⟩
  replace K := K.below hbn
  clear c0a c0b c1a c1b c2a c2b c3a c3b c4a c4b c5a c5b c6a c6b c7a c7b c8a c8b c9a c9b c10a c10b c11a c11b c12a c12b c13a c13b
  have c0a := K.c0 (g := g11) (r := ru) (by simp)
  have c0b := K.c1 (g := g11) (r := ru) (by simp)
  have c1a := K.c0 (g := g10) (r := rd) (by simp)
  have c1b := K.c1 (g := g10) (r := rd) (by simp)
  have c2a := K.c0 (g := g9) (r := rn) (by simp)
  have c2b := K.c1 (g := g9) (r := rn) (by simp)
  have c3a := K.c0 (g := g8) (r := rt) (by simp)
  have c3b := K.c1 (g := g8) (r := rt) (by simp)
  have c4a := K.c0 (g := g7) (r := rs) (by simp)
  have c4b := K.c1 (g := g7) (r := rs) (by simp)
  have c5a := K.c0 (g := g6) (r := rm) (by simp)
  have c5b := K.c1 (g := g6) (r := rm) (by simp)
  have c6a := K.c0 (g := g5) (r := ry) (by simp)
  have c6b := K.c1 (g := g5) (r := ry) (by simp)
  have c7a := K.c0 (g := g4) (r := rbc) (by simp)
  have c7b := K.c1 (g := g4) (r := rbc) (by simp)
  have c8a := K.c0 (g := g3) (r := rx) (by simp)
  have c8b := K.c1 (g := g3) (r := rx) (by simp)
  have c9a := K.c0 (g := g2) (r := rba) (by simp)
  have c9b := K.c1 (g := g2) (r := rba) (by simp)
  have c10a := K.c0 (g := g1) (r := rab) (by simp)
  have c10b := K.c1 (g := g1) (r := rab) (by simp)
  have c11a := K.c0 (g := o) (r := rc) (by simp)
  have c11b := K.c1 (g := o) (r := rc) (by simp)
  have c12a := K.c0 (g := q) (r := rb) (by simp)
  have c12b := K.c1 (g := q) (r := rb) (by simp)
  have c13a := K.c0 (g := p) (r := ra) (by simp)
  have c13b := K.c1 (g := p) (r := ra) (by simp)
  go_wp2_with fail
  refine (same_r _ rd ra (K.nt _ (by simp)) (K.nt _ (by simp))).mono ?_
  rintro e wn ⟨rfl, hbn⟩
  replace K := K.below hbn
  clear c0a c0b c1a c1b c2a c2b c3a c3b c4a c4b c5a c5b c6a c6b c7a c7b c8a c8b c9a c9b c10a c10b c11a c11b c12a c12b c13a c13b
  have c0a := K.c0 (g := g11) (r := ru) (by simp)
  have c0b := K.c1 (g := g11) (r := ru) (by simp)
  have c1a := K.c0 (g := g10) (r := rd) (by simp)
  have c1b := K.c1 (g := g10) (r := rd) (by simp)
  have c2a := K.c0 (g := g9) (r := rn) (by simp)
  have c2b := K.c1 (g := g9) (r := rn) (by simp)
  have c3a := K.c0 (g := g8) (r := rt) (by simp)
  have c3b := K.c1 (g := g8) (r := rt) (by simp)
  have c4a := K.c0 (g := g7) (r := rs) (by simp)
  have c4b := K.c1 (g := g7) (r := rs) (by simp)
  have c5a := K.c0 (g := g6) (r := rm) (by simp)
  have c5b := K.c1 (g := g6) (r := rm) (by simp)
  have c6a := K.c0 (g := g5) (r := ry) (by simp)
  have c6b := K.c1 (g := g5) (r := ry) (by simp)
  have c7a := K.c0 (g := g4) (r := rbc) (by simp)
  have c7b := K.c1 (g := g4) (r := rbc) (by simp)
  have c8a := K.c0 (g := g3) (r := rx) (by simp)
  have c8b := K.c1 (g := g3) (r := rx) (by simp)
  have c9a := K.c0 (g := g2) (r := rba) (by simp)
  have c9b := K.c1 (g := g2) (r := rba) (by simp)
  have c10a := K.c0 (g := g1) (r := rab) (by simp)
  have c10b := K.c1 (g := g1) (r := rab) (by simp)
  have c11a := K.c0 (g := o) (r := rc) (by simp)
  have c11b := K.c1 (g := o) (r := rc) (by simp)
  have c12a := K.c0 (g := q) (r := rb) (by simp)
  have c12b := K.c1 (g := q) (r := rb) (by simp)
  have c13a := K.c0 (g := p) (r := ra) (by simp)
  have c13b := K.c1 (g := p) (r := ra) (by simp)
  go_wp2_with fail
  refine (same_r _ rs ru (K.nt _ (by simp)) (K.nt _ (by simp))).mono ?_
  rintro e wn ⟨rfl, hbn⟩
  replace K := K.below hbn
  clear c0a c0b c1a c1b c2a c2b c3a c3b c4a c4b c5a c5b c6a c6b c7a c7b c8a c8b c9a c9b c10a c10b c11a c11b c12a c12b c13a c13b
  have c0a := K.c0 (g := g11) (r := ru) (by simp)
  have c0b := K.c1 (g := g11) (r := ru) (by simp)
  have c1a := K.c0 (g := g10) (r := rd) (by simp)
  have c1b := K.c1 (g := g10) (r := rd) (by simp)
  have c2a := K.c0 (g := g9) (r := rn) (by simp)
  have c2b := K.c1 (g := g9) (r := rn) (by simp)
  have c3a := K.c0 (g := g8) (r := rt) (by simp)
  have c3b := K.c1 (g := g8) (r := rt) (by simp)
  have c4a := K.c0 (g := g7) (r := rs) (by simp)
  have c4b := K.c1 (g := g7) (r := rs) (by simp)
  have c5a := K.c0 (g := g6) (r := rm) (by simp)
  have c5b := K.c1 (g := g6) (r := rm) (by simp)
  have c6a := K.c0 (g := g5) (r := ry) (by simp)
  have c6b := K.c1 (g := g5) (r := ry) (by simp)
  have c7a := K.c0 (g := g4) (r := rbc) (by simp)
  have c7b := K.c1 (g := g4) (r := rbc) (by simp)
  have c8a := K.c0 (g := g3) (r := rx) (by simp)
  have c8b := K.c1 (g := g3) (r := rx) (by simp)
  have c9a := K.c0 (g := g2) (r := rba) (by simp)
  have c9b := K.c1 (g := g2) (r := rba) (by simp)
  have c10a := K.c0 (g := g1) (r := rab) (by simp)
  have c10b := K.c1 (g := g1) (r := rab) (by simp)
  have c11a := K.c0 (g := o) (r := rc) (by simp)
  have c11b := K.c1 (g := o) (r := rc) (by simp)
  have c12a := K.c0 (g := q) (r := rb) (by simp)
  have c12b := K.c1 (g := q) (r := rb) (by simp)
  have c13a := K.c0 (g := p) (r := ra) (by simp)
  have c13b := K.c1 (g := p) (r := ra) (by simp)
  go_wp2_with fail
  refine (may_r _ rm (K.nt _ (by simp))).mono ?_
  rintro e wn ⟨rfl, hbn⟩
  replace K := K.below hbn
  clear c0a c0b c1a c1b c2a c2b c3a c3b c4a c4b c5a c5b c6a c6b c7a c7b c8a c8b c9a c9b c10a c10b c11a c11b c12a c12b c13a c13b
  have c0a := K.c0 (g := g11) (r := ru) (by simp)
  have c0b := K.c1 (g := g11) (r := ru) (by simp)
  have c1a := K.c0 (g := g10) (r := rd) (by simp)
  have c1b := K.c1 (g := g10) (r := rd) (by simp)
  have c2a := K.c0 (g := g9) (r := rn) (by simp)
  have c2b := K.c1 (g := g9) (r := rn) (by simp)
  have c3a := K.c0 (g := g8) (r := rt) (by simp)
  have c3b := K.c1 (g := g8) (r := rt) (by simp)
  have c4a := K.c0 (g := g7) (r := rs) (by simp)
  have c4b := K.c1 (g := g7) (r := rs) (by simp)
  have c5a := K.c0 (g := g6) (r := rm) (by simp)
  have c5b := K.c1 (g := g6) (r := rm) (by simp)
  have c6a := K.c0 (g := g5) (r := ry) (by simp)
  have c6b := K.c1 (g := g5) (r := ry) (by simp)
  have c7a := K.c0 (g := g4) (r := rbc) (by simp)
  have c7b := K.c1 (g := g4) (r := rbc) (by simp)
  have c8a := K.c0 (g := g3) (r := rx) (by simp)
  have c8b := K.c1 (g := g3) (r := rx) (by simp)
  have c9a := K.c0 (g := g2) (r := rba) (by simp)
  have c9b := K.c1 (g := g2) (r := rba) (by simp)
  have c10a := K.c0 (g := g1) (r := rab) (by simp)
  have c10b := K.c1 (g := g1) (r := rab) (by simp)
  have c11a := K.c0 (g := o) (r := rc) (by simp)
  have c11b := K.c1 (g := o) (r := rc) (by simp)
  have c12a := K.c0 (g := q) (r := rb) (by simp)
  have c12b := K.c1 (g := q) (r := rb) (by simp)
  have c13a := K.c0 (g := p) (r := ra) (by simp)
  have c13b := K.c1 (g := p) (r := ra) (by simp)
  go_wp2_with fail
  refine (awake_any _).mono ?_
  rintro e wn ⟨rfl, hbn⟩
  replace K := K.below hbn
  clear c0a c0b c1a c1b c2a c2b c3a c3b c4a c4b c5a c5b c6a c6b c7a c7b c8a c8b c9a c9b c10a c10b c11a c11b c12a c12b c13a c13b
  have c0a := K.c0 (g := g11) (r := ru) (by simp)
  have c0b := K.c1 (g := g11) (r := ru) (by simp)
  have c1a := K.c0 (g := g10) (r := rd) (by simp)
  have c1b := K.c1 (g := g10) (r := rd) (by simp)
  have c2a := K.c0 (g := g9) (r := rn) (by simp)
  have c2b := K.c1 (g := g9) (r := rn) (by simp)
  have c3a := K.c0 (g := g8) (r := rt) (by simp)
  have c3b := K.c1 (g := g8) (r := rt) (by simp)
  have c4a := K.c0 (g := g7) (r := rs) (by simp)
  have c4b := K.c1 (g := g7) (r := rs) (by simp)
  have c5a := K.c0 (g := g6) (r := rm) (by simp)
  have c5b := K.c1 (g := g6) (r := rm) (by simp)
  have c6a := K.c0 (g := g5) (r := ry) (by simp)
  have c6b := K.c1 (g := g5) (r := ry) (by simp)
  have c7a := K.c0 (g := g4) (r := rbc) (by simp)
  have c7b := K.c1 (g := g4) (r := rbc) (by simp)
  have c8a := K.c0 (g := g3) (r := rx) (by simp)
  have c8b := K.c1 (g := g3) (r := rx) (by simp)
  have c9a := K.c0 (g := g2) (r := rba) (by simp)
  have c9b := K.c1 (g := g2) (r := rba) (by simp)
  have c10a := K.c0 (g := g1) (r := rab) (by simp)
  have c10b := K.c1 (g := g1) (r := rab) (by simp)
  have c11a := K.c0 (g := o) (r := rc) (by simp)
  have c11b := K.c1 (g := o) (r := rc) (by simp)
  have c12a := K.c0 (g := q) (r := rb) (by simp)
  have c12b := K.c1 (g := q) (r := rb) (by simp)
  have c13a := K.c0 (g := p) (r := ra) (by simp)
  have c13b := K.c1 (g := p) (r := ra) (by simp)
  go_wp2
  go_ret
  exact ⟨rfl, K.bl⟩

end Go.Proofs.Ytlmojomnebjhaaa
