/-
  CONTRACTS OF THE LAWS' OWN FUNCTIONS ON INTEGERS (beehiveref1): Add whole, Sub, Cmp.
-/
import Derived.Test.YtlmojomnebjhaaaRefC
namespace Go.Proofs.Ytlmojomnebjhaaa
open Go.RowKit

theorem refAdd_yes (w : World) (g g' : Bool) (A B : Option Addr) (n c m d : Nat) (l k : List Nat) (h : Raw w A n c l) (h' : Raw w B m d k) (hm : mayB g l = true) (hm' : mayB g' k = true) :
    Calls Try.prog 14 #[.agg #[.bool g, .slice A n c], .agg #[.bool g', .slice B m d]] w (NumPost w (clip (sgn g (Lm.val l) + sgn g' (Lm.val k))) (fits (sgn g (Lm.val l) + sgn g' (Lm.val k)))) := by
  by_cases hg : g = g'
  · have := refAdd_same w g g' A B n c m d l k h h' hm hm' hg
    subst hg
    rwa [sgn_add] at this
  · rcases Nat.lt_or_ge (Lm.val l) (Lm.val k) with hl | hl
    · rw [← sgn_less hg hl]
      exact refAdd_less w g g' A B n c m d l k h h' hm hm' hg hl
    · rw [← sgn_more hg hl]
      exact refAdd_more w g g' A B n c m d l k h h' hm hm' hg hl

set_option maxHeartbeats 1000000 in
theorem refSub_no2 (w : World) (g g' : Bool) (A B : Option Addr) (n c m d : Nat) (l k : List Nat) (h : Raw w A n c l) (h' : Raw w B m d k) (hm' : mayB g' k = false) : Calls Try.prog 15 #[.agg #[.bool g, .slice A n c], .agg #[.bool g', .slice B m d]] w (NumPost w 0 false) := by
  go_enter Try.func15, Try.ntmps15
  go_wp2_with fail
  have hb0 := (((Below.refl w.heap.size w).alloc (Nat.le_refl _) (.cells #[.bool g, .slice A n c] 24)).alloc (by simp) (.cells #[.bool g', .slice B m d] 24)).alloc (by simp; omega) (.cells #[.bool false, .slice none 0 0] 24)
  have hxa := ((Box.new w (.bool g) (.slice A n c)).alloc (.cells #[.bool g', .slice B m d] 24)).alloc (.cells #[.bool false, .slice none 0 0] 24)
  have hxb := (Box.new (w.alloc (.cells #[.bool g, .slice A n c] 24)) (.bool g') (.slice B m d)).alloc (.cells #[.bool false, .slice none 0 0] 24)
  have hxr := Box.new ((w.alloc (.cells #[.bool g, .slice A n c] 24)).alloc (.cells #[.bool g', .slice B m d] 24)) (.bool false) (.slice none 0 0)
  simp only [World.size_alloc] at hxb hxr
  have hAA := h.below hb0
  have hBB := h'.below hb0
  generalize ((w.alloc (.cells #[.bool g, .slice A n c] 24)).alloc (.cells #[.bool g', .slice B m d] 24)).alloc (.cells #[.bool false, .slice none 0 0] 24) = W at *
  have x1 := hxb.c0
  have x2 := hxb.c1
  refine (refMay_b W g' B m d k hBB).mono ?_
  rintro e w1 ⟨rfl, hb1⟩
  have ya := hxa.below' hb1
  have yb := hxb.below' hb1
  have yr := hxr.below' hb1
  replace hAA := hAA.below hb1
  replace hBB := hBB.below hb1
  replace hb0 := hb0.trans (hb1.mono hb0.size)
  clear hxa hxb hxr x1 x2 hb1
  have x1 := ya.c0
  have x2 := ya.c1
  have x3 := yb.c0
  have x4 := yb.c1
  have z0 := yr.c0
  have z1 := yr.c1
  have z2 := yr.f0
  have z3 := yr.f1
  go_wp2
  obtain ⟨hB, hNV, hbl⟩ := close_num (s := false) (A := none) (n := 0) (c := 0) (z := 0) (base := w.heap.size) (base' := w.heap.size) yr (by omega) hb0 (Lib.hid rfl) (by rw [show (0 : Int).natAbs = 0 from rfl, Lm.digits_zero]; exact Own.nil _ _) (Nat.le_refl _)
  generalize (w1.setCell ⟨w.heap.size + 1 + 1, 0, none⟩ (.bool false)).setCell ⟨w.heap.size + 1 + 1, 1, none⟩ (.slice none 0 0) = W2 at *
  have hy0 := hB.c0
  have hy1 := hB.c1
  exact bodyPost_ret (v := .tuple #[.agg #[.bool false, .slice none 0 0], .bool false]) (by simp [results, Try.results15, go_sem, hy0, hy1]) rfl ⟨_, rfl, hNV, hbl⟩

set_option maxHeartbeats 2000000 in
theorem refSub_no1 (w : World) (g g' : Bool) (A B : Option Addr) (n c m d : Nat) (l k : List Nat) (h : Raw w A n c l) (h' : Raw w B m d k) (hm : mayB g l = false) (hm' : mayB g' k = true) : Calls Try.prog 15 #[.agg #[.bool g, .slice A n c], .agg #[.bool g', .slice B m d]] w (NumPost w 0 false) := by
  have htop := Lib.hid (top_of_may h'.1.2.2.1 hm')
  go_enter Try.func15, Try.ntmps15
  go_wp2_with fail
  have hb0 := (((Below.refl w.heap.size w).alloc (Nat.le_refl _) (.cells #[.bool g, .slice A n c] 24)).alloc (by simp) (.cells #[.bool g', .slice B m d] 24)).alloc (by simp; omega) (.cells #[.bool false, .slice none 0 0] 24)
  have hxa := ((Box.new w (.bool g) (.slice A n c)).alloc (.cells #[.bool g', .slice B m d] 24)).alloc (.cells #[.bool false, .slice none 0 0] 24)
  have hxb := (Box.new (w.alloc (.cells #[.bool g, .slice A n c] 24)) (.bool g') (.slice B m d)).alloc (.cells #[.bool false, .slice none 0 0] 24)
  have hxr := Box.new ((w.alloc (.cells #[.bool g, .slice A n c] 24)).alloc (.cells #[.bool g', .slice B m d] 24)) (.bool false) (.slice none 0 0)
  simp only [World.size_alloc] at hxb hxr
  have hAA := h.below hb0
  have hBB := h'.below hb0
  generalize ((w.alloc (.cells #[.bool g, .slice A n c] 24)).alloc (.cells #[.bool g', .slice B m d] 24)).alloc (.cells #[.bool false, .slice none 0 0] 24) = W at *
  have x1 := hxb.c0
  have x2 := hxb.c1
  refine (refMay_b W g' B m d k hBB).mono ?_
  rintro e w1 ⟨rfl, hb1⟩
  have ya := hxa.below' hb1
  have yb := hxb.below' hb1
  have yr := hxr.below' hb1
  replace hAA := hAA.below hb1
  replace hBB := hBB.below hb1
  replace hb0 := hb0.trans (hb1.mono hb0.size)
  clear hxa hxb hxr x1 x2 hb1
  have x1 := ya.c0
  have x2 := ya.c1
  have x3 := yb.c0
  have x4 := yb.c1
  go_wp2
  have ne1 : w.heap.size ≠ w.heap.size + 1 + 1 := by omega
  have ne2 : w.heap.size + 1 ≠ w.heap.size + 1 + 1 := by omega
  go_region_held3 (fun w' => w'.cell? ⟨w.heap.size, 0, none⟩ = some (.bool g) ∧ w'.cell? ⟨w.heap.size, 1, none⟩ = some (.slice A n c) ∧ w'.cell? ⟨w.heap.size + 1, 0, none⟩ = some (.bool g') ∧ w'.cell? ⟨w.heap.size + 1, 1, none⟩ = some (.slice B m d))
    (first | exact ⟨x1, x2, x3, x4⟩ | exact ⟨ua.c0, ua.c1, ub.c0, ub.c1⟩ | exact ⟨ta.c0, ta.c1, tb.c0, tb.c1⟩ | exact ⟨((ta.far (p := ⟨w.heap.size + 1 + 1, 0, none⟩) ne1 _).far (p := ⟨w.heap.size + 1 + 1, 1, none⟩) ne1 _).c0, ((ta.far (p := ⟨w.heap.size + 1 + 1, 0, none⟩) ne1 _).far (p := ⟨w.heap.size + 1 + 1, 1, none⟩) ne1 _).c1, ((tb.far (p := ⟨w.heap.size + 1 + 1, 0, none⟩) ne2 _).far (p := ⟨w.heap.size + 1 + 1, 1, none⟩) ne2 _).c0, ((tb.far (p := ⟨w.heap.size + 1 + 1, 0, none⟩) ne2 _).far (p := ⟨w.heap.size + 1 + 1, 1, none⟩) ne2 _).c1⟩)
    (first
      | (go_at_call 23; refine (refNeg_yes _ g' B m d k (by exact hBB) hm').mono ?_; rintro e w3 ⟨_, rfl, ⟨s3, A3, n3, c3, rfl, hs3, ho3⟩, hb1⟩; have ua := Box.below' (w := w1.drew) ya hb1; have ub := Box.below' (w := w1.drew) yb hb1; have ur := Box.below' (w := w1.drew) yr hb1; have hA3 := Raw.below (w := w1.drew) hAA hb1; have nm3 := Nm.of_own hs3 ho3)
      | (go_at_call 14; refine (refAdd_no1 _ g s3 A A3 n c n3 c3 l _ (by exact hA3) (by exact nm3.1) hm).mono ?_; rintro e w4 ⟨_, rfl, ⟨s2, A2, n2, c2, rfl, hs2, ho2⟩, hb2⟩; have ta := ua.below' hb2; have tb := ub.below' hb2; have tr := ur.below' hb2; have z0 := tr.c0; have z1 := tr.c1; have z2 := tr.f0; have z3 := tr.f1))
  go_wp2
  have hsz := hb0.size
  obtain ⟨hB, hNV, hbl⟩ := close_num (base' := w.heap.size) tr (by omega) (hb0.trans (((Below.drew (Below.refl _ w1)).trans (hb1.mono (by simpa using hsz))).trans (hb2.mono (by have := hb1.size; simp at this; omega)))) hs2 ho2 (by have := hb1.size; simp at this; omega)
  generalize (w4.setCell ⟨w.heap.size + 1 + 1, 0, none⟩ (.bool s2)).setCell ⟨w.heap.size + 1 + 1, 1, none⟩ (.slice A2 n2 c2) = W2 at *
  have hy0 := hB.c0
  have hy1 := hB.c1
  exact bodyPost_ret (v := .tuple #[.agg #[.bool s2, .slice A2 n2 c2], .bool (false)]) (by simp [results, Try.results15, go_sem, hy0, hy1]) rfl ⟨_, rfl, hNV, hbl⟩

set_option maxHeartbeats 2000000 in
theorem refSub_yes (w : World) (g g' : Bool) (A B : Option Addr) (n c m d : Nat) (l k : List Nat) (h : Raw w A n c l) (h' : Raw w B m d k) (hm : mayB g l = true) (hm' : mayB g' k = true) : Calls Try.prog 15 #[.agg #[.bool g, .slice A n c], .agg #[.bool g', .slice B m d]] w (NumPost w (clip (sgn g (Lm.val l) - sgn g' (Lm.val k))) (fits (sgn g (Lm.val l) - sgn g' (Lm.val k)))) := by
  have htop := Lib.hid (top_of_may h'.1.2.2.1 hm')
  go_enter Try.func15, Try.ntmps15
  go_wp2_with fail
  have hb0 := (((Below.refl w.heap.size w).alloc (Nat.le_refl _) (.cells #[.bool g, .slice A n c] 24)).alloc (by simp) (.cells #[.bool g', .slice B m d] 24)).alloc (by simp; omega) (.cells #[.bool false, .slice none 0 0] 24)
  have hxa := ((Box.new w (.bool g) (.slice A n c)).alloc (.cells #[.bool g', .slice B m d] 24)).alloc (.cells #[.bool false, .slice none 0 0] 24)
  have hxb := (Box.new (w.alloc (.cells #[.bool g, .slice A n c] 24)) (.bool g') (.slice B m d)).alloc (.cells #[.bool false, .slice none 0 0] 24)
  have hxr := Box.new ((w.alloc (.cells #[.bool g, .slice A n c] 24)).alloc (.cells #[.bool g', .slice B m d] 24)) (.bool false) (.slice none 0 0)
  simp only [World.size_alloc] at hxb hxr
  have hAA := h.below hb0
  have hBB := h'.below hb0
  generalize ((w.alloc (.cells #[.bool g, .slice A n c] 24)).alloc (.cells #[.bool g', .slice B m d] 24)).alloc (.cells #[.bool false, .slice none 0 0] 24) = W at *
  have x1 := hxb.c0
  have x2 := hxb.c1
  refine (refMay_b W g' B m d k hBB).mono ?_
  rintro e w1 ⟨rfl, hb1⟩
  have ya := hxa.below' hb1
  have yb := hxb.below' hb1
  have yr := hxr.below' hb1
  replace hAA := hAA.below hb1
  replace hBB := hBB.below hb1
  replace hb0 := hb0.trans (hb1.mono hb0.size)
  clear hxa hxb hxr x1 x2 hb1
  have x1 := ya.c0
  have x2 := ya.c1
  have x3 := yb.c0
  have x4 := yb.c1
  go_wp2
  have ne1 : w.heap.size ≠ w.heap.size + 1 + 1 := by omega
  have ne2 : w.heap.size + 1 ≠ w.heap.size + 1 + 1 := by omega
  go_region_held3 (fun w' => w'.cell? ⟨w.heap.size, 0, none⟩ = some (.bool g) ∧ w'.cell? ⟨w.heap.size, 1, none⟩ = some (.slice A n c) ∧ w'.cell? ⟨w.heap.size + 1, 0, none⟩ = some (.bool g') ∧ w'.cell? ⟨w.heap.size + 1, 1, none⟩ = some (.slice B m d))
    (first | exact ⟨x1, x2, x3, x4⟩ | exact ⟨ua.c0, ua.c1, ub.c0, ub.c1⟩ | exact ⟨ta.c0, ta.c1, tb.c0, tb.c1⟩ | exact ⟨((ta.far (p := ⟨w.heap.size + 1 + 1, 0, none⟩) ne1 _).far (p := ⟨w.heap.size + 1 + 1, 1, none⟩) ne1 _).c0, ((ta.far (p := ⟨w.heap.size + 1 + 1, 0, none⟩) ne1 _).far (p := ⟨w.heap.size + 1 + 1, 1, none⟩) ne1 _).c1, ((tb.far (p := ⟨w.heap.size + 1 + 1, 0, none⟩) ne2 _).far (p := ⟨w.heap.size + 1 + 1, 1, none⟩) ne2 _).c0, ((tb.far (p := ⟨w.heap.size + 1 + 1, 0, none⟩) ne2 _).far (p := ⟨w.heap.size + 1 + 1, 1, none⟩) ne2 _).c1⟩)
    (first
      | (go_at_call 23; refine (refNeg_yes _ g' B m d k (by exact hBB) hm').mono ?_; rintro e w3 ⟨_, rfl, ⟨s3, A3, n3, c3, rfl, hs3, ho3⟩, hb1⟩; have ua := Box.below' (w := w1.drew) ya hb1; have ub := Box.below' (w := w1.drew) yb hb1; have ur := Box.below' (w := w1.drew) yr hb1; have hA3 := Raw.below (w := w1.drew) hAA hb1; have nm3 := Nm.of_own hs3 ho3)
      | (go_at_call 14; refine (refAdd_yes _ g s3 A A3 n c n3 c3 l _ (by exact hA3) (by exact nm3.1) hm (nm3.may (by rw [Int.natAbs_neg]; exact htop.out))).mono ?_; rw [nm3.eqZ, ← Int.sub_eq_add_neg]; rintro e w4 ⟨_, rfl, ⟨s2, A2, n2, c2, rfl, hs2, ho2⟩, hb2⟩; have ta := ua.below' hb2; have tb := ub.below' hb2; have tr := ur.below' hb2; have z0 := tr.c0; have z1 := tr.c1; have z2 := tr.f0; have z3 := tr.f1))
  go_wp2
  have hsz := hb0.size
  obtain ⟨hB, hNV, hbl⟩ := close_num (base' := w.heap.size) tr (by omega) (hb0.trans (((Below.drew (Below.refl _ w1)).trans (hb1.mono (by simpa using hsz))).trans (hb2.mono (by have := hb1.size; simp at this; omega)))) hs2 ho2 (by have := hb1.size; simp at this; omega)
  generalize (w4.setCell ⟨w.heap.size + 1 + 1, 0, none⟩ (.bool s2)).setCell ⟨w.heap.size + 1 + 1, 1, none⟩ (.slice A2 n2 c2) = W2 at *
  have hy0 := hB.c0
  have hy1 := hB.c1
  exact bodyPost_ret (v := .tuple #[.agg #[.bool s2, .slice A2 n2 c2], .bool (fits (sgn g (Lm.val l) - sgn g' (Lm.val k)))]) (by simp [results, Try.results15, go_sem, hy0, hy1]) rfl ⟨_, rfl, hNV, hbl⟩

set_option maxHeartbeats 1000000 in
theorem refCmp_no1 (w : World) (g g' : Bool) (A B : Option Addr) (n c m d : Nat) (l k : List Nat) (h : Raw w A n c l) (h' : Raw w B m d k) (hm : mayB g l = false) : Calls Try.prog 22 #[.agg #[.bool g, .slice A n c], .agg #[.bool g', .slice B m d]] w (IntPost w 0) := by
  go_enter Try.func22, Try.ntmps22
  go_wp2_with fail
  have hb0 := (((Below.refl w.heap.size w).alloc (Nat.le_refl _) (.cells #[.bool g, .slice A n c] 24)).alloc (by simp) (.cells #[.bool g', .slice B m d] 24))
  have hxa := ((Box.new w (.bool g) (.slice A n c)).alloc (.cells #[.bool g', .slice B m d] 24))
  have hxb := (Box.new (w.alloc (.cells #[.bool g, .slice A n c] 24)) (.bool g') (.slice B m d))
  simp only [World.size_alloc] at hxb
  have hAA := h.below hb0
  have hBB := h'.below hb0
  generalize ((w.alloc (.cells #[.bool g, .slice A n c] 24)).alloc (.cells #[.bool g', .slice B m d] 24)) = W at *
  have x1 := hxa.c0
  have x2 := hxa.c1
  refine (refMay_b W g A n c l hAA).mono ?_
  rintro e w1 ⟨rfl, hb1⟩
  have ya := hxa.below' hb1
  have yb := hxb.below' hb1
  skip
  replace hAA := hAA.below hb1
  replace hBB := hBB.below hb1
  replace hb0 := hb0.trans (hb1.mono hb0.size)
  clear hxa hxb  x1 x2 hb1
  have x1 := ya.c0
  have x2 := ya.c1
  have x3 := yb.c0
  have x4 := yb.c1
  go_wp2
  go_ret
  exact ⟨rfl, hb0⟩
set_option maxHeartbeats 1000000 in
theorem refCmp_no2 (w : World) (g g' : Bool) (A B : Option Addr) (n c m d : Nat) (l k : List Nat) (h : Raw w A n c l) (h' : Raw w B m d k) (hm : mayB g l = true) (hm' : mayB g' k = false) : Calls Try.prog 22 #[.agg #[.bool g, .slice A n c], .agg #[.bool g', .slice B m d]] w (IntPost w 0) := by
  go_enter Try.func22, Try.ntmps22
  go_wp2_with fail
  have hb0 := (((Below.refl w.heap.size w).alloc (Nat.le_refl _) (.cells #[.bool g, .slice A n c] 24)).alloc (by simp) (.cells #[.bool g', .slice B m d] 24))
  have hxa := ((Box.new w (.bool g) (.slice A n c)).alloc (.cells #[.bool g', .slice B m d] 24))
  have hxb := (Box.new (w.alloc (.cells #[.bool g, .slice A n c] 24)) (.bool g') (.slice B m d))
  simp only [World.size_alloc] at hxb
  have hAA := h.below hb0
  have hBB := h'.below hb0
  generalize ((w.alloc (.cells #[.bool g, .slice A n c] 24)).alloc (.cells #[.bool g', .slice B m d] 24)) = W at *
  have x1 := hxa.c0
  have x2 := hxa.c1
  refine (refMay_b W g A n c l hAA).mono ?_
  rintro e w1 ⟨rfl, hb1⟩
  have ya := hxa.below' hb1
  have yb := hxb.below' hb1
  skip
  replace hAA := hAA.below hb1
  replace hBB := hBB.below hb1
  replace hb0 := hb0.trans (hb1.mono hb0.size)
  clear hxa hxb  x1 x2 hb1
  have x1 := ya.c0
  have x2 := ya.c1
  have x3 := yb.c0
  have x4 := yb.c1
  go_wp2_with fail
  refine (refMay_b w1 g' B m d k hBB).mono ?_
  rintro e w2 ⟨rfl, hb2⟩
  have za := ya.below' hb2
  have zb := yb.below' hb2
  skip
  replace hAA := hAA.below hb2
  replace hBB := hBB.below hb2
  replace hb0 := hb0.trans (hb2.mono hb0.size)
  clear ya yb  x1 x2 x3 x4 hb2
  have x1 := za.c0
  have x2 := za.c1
  have x3 := zb.c0
  have x4 := zb.c1
  go_wp2
  go_ret
  exact ⟨rfl, hb0⟩
set_option maxHeartbeats 2000000 in
theorem refCmp_yes (w : World) (g g' : Bool) (A B : Option Addr) (n c m d : Nat) (l k : List Nat) (h : Raw w A n c l) (h' : Raw w B m d k) (hm : mayB g l = true) (hm' : mayB g' k = true) :
    Calls Try.prog 22 #[.agg #[.bool g, .slice A n c], .agg #[.bool g', .slice B m d]] w (IntPost w (cmpZ (sgn g (Lm.val l)) (sgn g' (Lm.val k)))) := by
  have hsl := h.1.2.2.1
  have hsk := h'.1.2.2.1
  go_enter Try.func22, Try.ntmps22
  go_wp2_with fail
  have hb0 := (((Below.refl w.heap.size w).alloc (Nat.le_refl _) (.cells #[.bool g, .slice A n c] 24)).alloc (by simp) (.cells #[.bool g', .slice B m d] 24))
  have hxa := ((Box.new w (.bool g) (.slice A n c)).alloc (.cells #[.bool g', .slice B m d] 24))
  have hxb := (Box.new (w.alloc (.cells #[.bool g, .slice A n c] 24)) (.bool g') (.slice B m d))
  simp only [World.size_alloc] at hxb
  have hAA := h.below hb0
  have hBB := h'.below hb0
  generalize ((w.alloc (.cells #[.bool g, .slice A n c] 24)).alloc (.cells #[.bool g', .slice B m d] 24)) = W at *
  have x1 := hxa.c0
  have x2 := hxa.c1
  refine (refMay_b W g A n c l hAA).mono ?_
  rintro e w1 ⟨rfl, hb1⟩
  have ya := hxa.below' hb1
  have yb := hxb.below' hb1
  skip
  replace hAA := hAA.below hb1
  replace hBB := hBB.below hb1
  replace hb0 := hb0.trans (hb1.mono hb0.size)
  clear hxa hxb  x1 x2 hb1
  have x1 := ya.c0
  have x2 := ya.c1
  have x3 := yb.c0
  have x4 := yb.c1
  go_wp2_with fail
  refine (refMay_b w1 g' B m d k hBB).mono ?_
  rintro e w2 ⟨rfl, hb2⟩
  have za := ya.below' hb2
  have zb := yb.below' hb2
  skip
  replace hAA := hAA.below hb2
  replace hBB := hBB.below hb2
  replace hb0 := hb0.trans (hb2.mono hb0.size)
  clear ya yb  x1 x2 x3 x4 hb2
  have x1 := za.c0
  have x2 := za.c1
  have x3 := zb.c0
  have x4 := zb.c1
  cases g with
  | true =>
    cases g' with
    | true =>
      have fin := Lib.hid (show Lm.cmpN (Lm.val k) (Lm.val l) = cmpZ (sgn true (Lm.val l)) (sgn true (Lm.val k)) by simp [Lm.cmpN, cmpZ, sgn])
      go_wp2_with fail
      refine (size_any w2 B A m d n c k l hBB.1 hBB.2 hAA.1 hAA.2 (mayB_canon hm') (mayB_canon hm)).mono ?_
      rintro e w' ⟨rfl, q, rfl⟩
      go_wp2
      go_ret
      rw [← fin.out]
      exact ⟨rfl, hb0.drewN' q⟩
    | false =>
      have hp := val_pos_of_neg hm hsl
      have fin := Lib.hid (show cmpZ (sgn true (Lm.val l)) (sgn false (Lm.val k)) = -1 by have e1 : sgn true (Lm.val l) = -(Lm.val l : Int) := rfl; have e2 : sgn false (Lm.val k) = (Lm.val k : Int) := rfl; rw [e1, e2]; unfold cmpZ; rw [if_pos (by omega)])
      go_wp2
      go_ret
      rw [fin.out]
      exact ⟨rfl, hb0⟩
  | false =>
    cases g' with
    | true =>
      have hp := val_pos_of_neg hm' hsk
      have fin := Lib.hid (show cmpZ (sgn false (Lm.val l)) (sgn true (Lm.val k)) = 1 by have e1 : sgn false (Lm.val l) = (Lm.val l : Int) := rfl; have e2 : sgn true (Lm.val k) = -(Lm.val k : Int) := rfl; rw [e1, e2]; unfold cmpZ; rw [if_neg (by omega), if_pos (by omega)])
      go_wp2
      go_ret
      rw [fin.out]
      exact ⟨rfl, hb0⟩
    | false =>
      have fin := Lib.hid (show Lm.cmpN (Lm.val l) (Lm.val k) = cmpZ (sgn false (Lm.val l)) (sgn false (Lm.val k)) by simp [Lm.cmpN, cmpZ, sgn])
      go_wp2_with fail
      refine (size_any w2 A B n c m d l k hAA.1 hAA.2 hBB.1 hBB.2 (mayB_canon hm) (mayB_canon hm')).mono ?_
      rintro e w' ⟨rfl, q, rfl⟩
      go_wp2
      go_ret
      rw [← fin.out]
      exact ⟨rfl, hb0.drewN' q⟩

end Go.Proofs.Ytlmojomnebjhaaa
