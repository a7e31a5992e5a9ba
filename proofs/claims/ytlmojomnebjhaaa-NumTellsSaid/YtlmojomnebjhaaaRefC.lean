/-
  CONTRACTS OF THE LAWS' OWN FUNCTIONS ON INTEGERS (beehiveref1): Of, Neg, Add.
-/
import Derived.Test.YtlmojomnebjhaaaRefB
namespace Go.Proofs.Ytlmojomnebjhaaa
open Go.RowKit

set_option maxHeartbeats 1000000 in
theorem refOf_neg (w : World) (z : Int) (h1 : -9223372036854775808 ≤ z) (h2 : z < 0) :
    Calls Try.prog 27 #[.int .i64 z] w (OnePost w z) := by
  obtain ⟨t, ht, htl, hts, htv⟩ := of_limbs_neg z h1 h2
  have hT := Lib.hid ht
  have hL := Lib.hid htl
  have hV := Lib.hid htv
  clear ht htl htv
  go_enter Try.func27, Try.ntmps27
  go_wp2_with fail
  rw [hT.out]
  have hb0 := ((Below.refl w.heap.size w).alloc (Nat.le_refl _) (.cells #[.bool false, .slice none 0 0] 24)).alloc (by simp) (.cells (arr t) 40)
  have hxr := (Box.new w (.bool false) (.slice none 0 0)).alloc (.cells (arr t) 40)
  have hown : Own ((w.alloc (.cells #[.bool false, .slice none 0 0] 24)).alloc (.cells (arr t) 40)) w.heap.size (some ⟨w.heap.size + 1, 0, none⟩) 2 2 t := by
    have := Own.new (w.alloc (.cells #[.bool false, .slice none 0 0] 24)) w.heap.size t hts (by simp) (by rw [hL.out]; decide)
    rw [hL.out] at this
    simpa using this
  generalize (w.alloc (.cells #[.bool false, .slice none 0 0] 24)).alloc (.cells (arr t) 40) = W at *
  refine (fit_any W true _ 2 2 t hown.lim (by decide) (by decide)).mono ?_
  have hzz : sgn true (Lm.val t) = z := by rw [hV.out]; unfold sgn; simp; omega
  rw [hzz]
  clear hzz
  rintro e w1 ⟨_, rfl, ⟨s1, A1, n1, c1, rfl, hs1, ho1⟩, hb⟩
  have r := hxr.below' hb
  have x0 := r.c0
  have x1 := r.c1
  have f0 := r.f0
  have f1 := r.f1
  go_wp2
  obtain ⟨hB, hNV, hbl⟩ := close_num (base' := w.heap.size) r (Nat.le_refl _) (hb0.trans (hb.mono hb0.size)) hs1 ho1 hb0.size
  generalize (w1.setCell ⟨w.heap.size, 0, none⟩ (.bool s1)).setCell ⟨w.heap.size, 1, none⟩ (.slice A1 n1 c1) = W2 at *
  have hy0 := hB.c0
  have hy1 := hB.c1
  exact bodyPost_ret (v := .agg #[.bool s1, .slice A1 n1 c1]) (by simp [results, Try.results27, go_sem, hy0, hy1]) rfl ⟨_, rfl, hNV, hbl⟩

set_option maxHeartbeats 1000000 in
theorem refOf_pos (w : World) (z : Int) (h1 : 0 ≤ z) (h2 : z ≤ 9223372036854775807) :
    Calls Try.prog 27 #[.int .i64 z] w (OnePost w z) := by
  obtain ⟨t, ht, htl, hts, htv⟩ := of_limbs_pos z h1 h2
  have hT := Lib.hid ht
  have hL := Lib.hid htl
  have hV := Lib.hid htv
  clear ht htl htv
  have hz0 : decide (z < 0) = false := by rw [decide_eq_false_iff_not]; omega
  go_enter Try.func27, Try.ntmps27
  go_wp2_with fail
  rw [hT.out]
  have hb0 := ((Below.refl w.heap.size w).alloc (Nat.le_refl _) (.cells #[.bool false, .slice none 0 0] 24)).alloc (by simp) (.cells (arr t) 40)
  have hxr := (Box.new w (.bool false) (.slice none 0 0)).alloc (.cells (arr t) 40)
  have hown : Own ((w.alloc (.cells #[.bool false, .slice none 0 0] 24)).alloc (.cells (arr t) 40)) w.heap.size (some ⟨w.heap.size + 1, 0, none⟩) 2 2 t := by
    have := Own.new (w.alloc (.cells #[.bool false, .slice none 0 0] 24)) w.heap.size t hts (by simp) (by rw [hL.out]; decide)
    rw [hL.out] at this
    simpa using this
  generalize (w.alloc (.cells #[.bool false, .slice none 0 0] 24)).alloc (.cells (arr t) 40) = W at *
  refine (fit_any W false _ 2 2 t hown.lim (by decide) (by decide)).mono ?_
  have hzz : sgn false (Lm.val t) = z := by rw [hV.out]; unfold sgn; simp; omega
  rw [hzz]
  clear hzz
  rintro e w1 ⟨_, rfl, ⟨s1, A1, n1, c1, rfl, hs1, ho1⟩, hb⟩
  have r := hxr.below' hb
  have x0 := r.c0
  have x1 := r.c1
  have f0 := r.f0
  have f1 := r.f1
  go_wp2
  obtain ⟨hB, hNV, hbl⟩ := close_num (base' := w.heap.size) r (Nat.le_refl _) (hb0.trans (hb.mono hb0.size)) hs1 ho1 hb0.size
  generalize (w1.setCell ⟨w.heap.size, 0, none⟩ (.bool s1)).setCell ⟨w.heap.size, 1, none⟩ (.slice A1 n1 c1) = W2 at *
  have hy0 := hB.c0
  have hy1 := hB.c1
  exact bodyPost_ret (v := .agg #[.bool s1, .slice A1 n1 c1]) (by simp [results, Try.results27, go_sem, hy0, hy1]) rfl ⟨_, rfl, hNV, hbl⟩

theorem refOf_any (w : World) (z : Int) (h1 : -9223372036854775808 ≤ z) (h2 : z ≤ 9223372036854775807) : Calls Try.prog 27 #[.int .i64 z] w (OnePost w z) := by
  rcases Int.lt_or_le z 0 with h | h
  · exact refOf_neg w z h1 h
  · exact refOf_pos w z h h2

set_option maxHeartbeats 1000000 in
theorem refNeg_no (w : World) (g : Bool) (A : Option Addr) (n c : Nat) (l : List Nat) (h : Raw w A n c l) (hm : mayB g l = false) :
    Calls Try.prog 23 #[.agg #[.bool g, .slice A n c]] w (OnePost w 0) := by
  go_enter Try.func23, Try.ntmps23
  go_wp2_with fail
  have hb0 := ((Below.refl w.heap.size w).alloc (Nat.le_refl _) (.cells #[.bool g, .slice A n c] 24)).alloc (by simp) (.cells #[.bool false, .slice none 0 0] 24)
  have hxr := Box.new (w.alloc (.cells #[.bool g, .slice A n c] 24)) (.bool false) (.slice none 0 0)
  simp only [World.size_alloc] at hxr
  have hAA := h.below hb0
  generalize (w.alloc (.cells #[.bool g, .slice A n c] 24)).alloc (.cells #[.bool false, .slice none 0 0] 24) = W at *
  refine (refMay_b W g A n c l hAA).mono ?_
  rintro e w1 ⟨rfl, hb1⟩
  have yr := hxr.below' hb1
  replace hb0 := hb0.trans (hb1.mono hb0.size)
  have z0 := yr.c0
  have z1 := yr.c1
  have z2 := yr.f0
  have z3 := yr.f1
  go_wp2
  obtain ⟨hB, hNV, hbl⟩ := close_num (s := false) (A := none) (n := 0) (c := 0) (z := 0) (base := w.heap.size) (base' := w.heap.size) yr (by omega) hb0 (Lib.hid rfl) (by rw [show (0 : Int).natAbs = 0 from rfl, Lm.digits_zero]; exact Own.nil _ _) (Nat.le_refl _)
  generalize (w1.setCell ⟨w.heap.size + 1, 0, none⟩ (.bool false)).setCell ⟨w.heap.size + 1, 1, none⟩ (.slice none 0 0) = W2 at *
  have hy0 := hB.c0
  have hy1 := hB.c1
  exact bodyPost_ret (v := .agg #[.bool false, .slice none 0 0]) (by simp [results, Try.results23, go_sem, hy0, hy1]) rfl ⟨_, rfl, hNV, hbl⟩

set_option maxHeartbeats 1000000 in
theorem refNeg_yes (w : World) (g : Bool) (A : Option Addr) (n c : Nat) (l : List Nat) (h : Raw w A n c l) (hm : mayB g l = true) :
    Calls Try.prog 23 #[.agg #[.bool g, .slice A n c]] w (OnePost w (-(sgn g (Lm.val l)))) := by
  have hlen : n ≤ 1000 := by have := mayB_len hm; rw [h.1.1] at this; omega
  go_enter Try.func23, Try.ntmps23
  go_wp2_with fail
  have hb0 := ((Below.refl w.heap.size w).alloc (Nat.le_refl _) (.cells #[.bool g, .slice A n c] 24)).alloc (by simp) (.cells #[.bool false, .slice none 0 0] 24)
  have hxa := (Box.new w (.bool g) (.slice A n c)).alloc (.cells #[.bool false, .slice none 0 0] 24)
  have hxr := Box.new (w.alloc (.cells #[.bool g, .slice A n c] 24)) (.bool false) (.slice none 0 0)
  simp only [World.size_alloc] at hxr
  have hAA := h.below hb0
  generalize (w.alloc (.cells #[.bool g, .slice A n c] 24)).alloc (.cells #[.bool false, .slice none 0 0] 24) = W at *
  refine (refMay_b W g A n c l hAA).mono ?_
  rintro e w1 ⟨rfl, hb1⟩
  have ya := hxa.below' hb1
  have yr := hxr.below' hb1
  replace hAA := hAA.below hb1
  replace hb0 := hb0.trans (hb1.mono hb0.size)
  clear hxa hxr hb1
  have x1 := ya.c0
  have x2 := ya.c1
  go_wp2_with fail
  refine (fit_any w1 (!g) A n c l hAA.1 hlen hAA.2).mono ?_
  rw [sgn_not]
  rintro e w4 ⟨_, rfl, ⟨s2, A2, n2, c2, rfl, hs2, ho2⟩, hb2⟩
  have tr := yr.below' hb2
  have z0 := tr.c0
  have z1 := tr.c1
  have z2 := tr.f0
  have z3 := tr.f1
  go_wp2
  have hsz := hb0.size
  obtain ⟨hB, hNV, hbl⟩ := close_num (base' := w.heap.size) tr (by omega) (hb0.trans (hb2.mono hsz)) hs2 ho2 hsz
  generalize (w4.setCell ⟨w.heap.size + 1, 0, none⟩ (.bool s2)).setCell ⟨w.heap.size + 1, 1, none⟩ (.slice A2 n2 c2) = W2 at *
  have hy0 := hB.c0
  have hy1 := hB.c1
  exact bodyPost_ret (v := .agg #[.bool s2, .slice A2 n2 c2]) (by simp [results, Try.results23, go_sem, hy0, hy1]) rfl ⟨_, rfl, hNV, hbl⟩

set_option maxHeartbeats 1000000 in
theorem refAdd_no1 (w : World) (g g' : Bool) (A B : Option Addr) (n c m d : Nat) (l k : List Nat) (h : Raw w A n c l) (h' : Raw w B m d k) (hm : mayB g l = false) : Calls Try.prog 14 #[.agg #[.bool g, .slice A n c], .agg #[.bool g', .slice B m d]] w (NumPost w 0 false) := by
  go_enter Try.func14, Try.ntmps14
  go_wp2_with fail
  have hb0 := (((Below.refl w.heap.size w).alloc (Nat.le_refl _) (.cells #[.bool g, .slice A n c] 24)).alloc (by simp) (.cells #[.bool g', .slice B m d] 24)).alloc (by simp; omega) (.cells #[.bool false, .slice none 0 0] 24)
  have hxa := ((Box.new w (.bool g) (.slice A n c)).alloc (.cells #[.bool g', .slice B m d] 24)).alloc (.cells #[.bool false, .slice none 0 0] 24)
  have hxb := (Box.new (w.alloc (.cells #[.bool g, .slice A n c] 24)) (.bool g') (.slice B m d)).alloc (.cells #[.bool false, .slice none 0 0] 24)
  have hxr := Box.new ((w.alloc (.cells #[.bool g, .slice A n c] 24)).alloc (.cells #[.bool g', .slice B m d] 24)) (.bool false) (.slice none 0 0)
  simp only [World.size_alloc] at hxb hxr
  have hAA := h.below hb0
  have hBB := h'.below hb0
  generalize ((w.alloc (.cells #[.bool g, .slice A n c] 24)).alloc (.cells #[.bool g', .slice B m d] 24)).alloc (.cells #[.bool false, .slice none 0 0] 24) = W at *
  have x1 := hxa.c0
  have x2 := hxa.c1
  refine (refMay_b W g A n c l hAA).mono ?_
  rintro e w1 ⟨rfl, hb1⟩
  have ya := hxa.below' hb1
  have yb := hxb.below' hb1
  have yr := hxr.below' hb1
  replace hAA := hAA.below hb1
  replace hBB := hBB.below hb1
  replace hb0 := hb0.trans (hb1.mono hb0.size)
  clear hxa hxb hxr x1 x2 hb1
  have x1 := ya.c0
  have x2 := ya.c1
  have x3 := yb.c0
  have x4 := yb.c1
  have z0 := yr.c0
  have z1 := yr.c1
  have z2 := yr.f0
  have z3 := yr.f1
  go_wp2
  obtain ⟨hB, hNV, hbl⟩ := close_num (s := false) (A := none) (n := 0) (c := 0) (z := 0) (base := w.heap.size) (base' := w.heap.size) yr (by omega) hb0 (Lib.hid rfl) (by rw [show (0 : Int).natAbs = 0 from rfl, Lm.digits_zero]; exact Own.nil _ _) (Nat.le_refl _)
  generalize (w1.setCell ⟨w.heap.size + 1 + 1, 0, none⟩ (.bool false)).setCell ⟨w.heap.size + 1 + 1, 1, none⟩ (.slice none 0 0) = W2 at *
  have hy0 := hB.c0
  have hy1 := hB.c1
  exact bodyPost_ret (v := .tuple #[.agg #[.bool false, .slice none 0 0], .bool false]) (by simp [results, Try.results14, go_sem, hy0, hy1]) rfl ⟨_, rfl, hNV, hbl⟩

set_option maxHeartbeats 1000000 in
theorem refAdd_no2 (w : World) (g g' : Bool) (A B : Option Addr) (n c m d : Nat) (l k : List Nat) (h : Raw w A n c l) (h' : Raw w B m d k) (hm : mayB g l = true) (hm' : mayB g' k = false) : Calls Try.prog 14 #[.agg #[.bool g, .slice A n c], .agg #[.bool g', .slice B m d]] w (NumPost w 0 false) := by
  go_enter Try.func14, Try.ntmps14
  go_wp2_with fail
  have hb0 := (((Below.refl w.heap.size w).alloc (Nat.le_refl _) (.cells #[.bool g, .slice A n c] 24)).alloc (by simp) (.cells #[.bool g', .slice B m d] 24)).alloc (by simp; omega) (.cells #[.bool false, .slice none 0 0] 24)
  have hxa := ((Box.new w (.bool g) (.slice A n c)).alloc (.cells #[.bool g', .slice B m d] 24)).alloc (.cells #[.bool false, .slice none 0 0] 24)
  have hxb := (Box.new (w.alloc (.cells #[.bool g, .slice A n c] 24)) (.bool g') (.slice B m d)).alloc (.cells #[.bool false, .slice none 0 0] 24)
  have hxr := Box.new ((w.alloc (.cells #[.bool g, .slice A n c] 24)).alloc (.cells #[.bool g', .slice B m d] 24)) (.bool false) (.slice none 0 0)
  simp only [World.size_alloc] at hxb hxr
  have hAA := h.below hb0
  have hBB := h'.below hb0
  generalize ((w.alloc (.cells #[.bool g, .slice A n c] 24)).alloc (.cells #[.bool g', .slice B m d] 24)).alloc (.cells #[.bool false, .slice none 0 0] 24) = W at *
  have x1 := hxa.c0
  have x2 := hxa.c1
  refine (refMay_b W g A n c l hAA).mono ?_
  rintro e w1 ⟨rfl, hb1⟩
  have ya := hxa.below' hb1
  have yb := hxb.below' hb1
  have yr := hxr.below' hb1
  replace hAA := hAA.below hb1
  replace hBB := hBB.below hb1
  replace hb0 := hb0.trans (hb1.mono hb0.size)
  clear hxa hxb hxr x1 x2 hb1
  have x1 := ya.c0
  have x2 := ya.c1
  have x3 := yb.c0
  have x4 := yb.c1
  go_wp2_with fail
  refine (refMay_b w1 g' B m d k hBB).mono ?_
  rintro e w2 ⟨rfl, hb2⟩
  have za := ya.below' hb2
  have zb := yb.below' hb2
  have zr := yr.below' hb2
  replace hAA := hAA.below hb2
  replace hBB := hBB.below hb2
  replace hb0 := hb0.trans (hb2.mono hb0.size)
  clear ya yb yr x1 x2 x3 x4 hb2
  have x1 := za.c0
  have x2 := za.c1
  have x3 := zb.c0
  have x4 := zb.c1
  have z0 := zr.c0
  have z1 := zr.c1
  have z2 := zr.f0
  have z3 := zr.f1
  go_wp2
  obtain ⟨hB, hNV, hbl⟩ := close_num (s := false) (A := none) (n := 0) (c := 0) (z := 0) (base := w.heap.size) (base' := w.heap.size) zr (by omega) hb0 (Lib.hid rfl) (by rw [show (0 : Int).natAbs = 0 from rfl, Lm.digits_zero]; exact Own.nil _ _) (Nat.le_refl _)
  generalize (w2.setCell ⟨w.heap.size + 1 + 1, 0, none⟩ (.bool false)).setCell ⟨w.heap.size + 1 + 1, 1, none⟩ (.slice none 0 0) = W2 at *
  have hy0 := hB.c0
  have hy1 := hB.c1
  exact bodyPost_ret (v := .tuple #[.agg #[.bool false, .slice none 0 0], .bool false]) (by simp [results, Try.results14, go_sem, hy0, hy1]) rfl ⟨_, rfl, hNV, hbl⟩

theorem plus_row (w : World) (A B : Option Addr) (n c m d va vb : Nat) (h : Arg w A n c va) (h' : Arg w B m d vb) :
    Calls Try.prog 36 #[.slice A n c, .slice B m d] w (RowPost w (max n m + 1) (va + vb)) := by
  have := plus_any w A B n c m d _ _ h.1 h.2.2 h'.1 h'.2.2
  rwa [Lm.val_digits, Lm.val_digits] at this
theorem minus_row (w : World) (A B : Option Addr) (n c m d va vb : Nat) (h : Arg w A n c va) (h' : Arg w B m d vb) (hle : vb ≤ va) :
    Calls Try.prog 38 #[.slice A n c, .slice B m d] w (RowPost w n (va - vb)) := by
  have := minus_any w A B n c m d _ _ h.1 h.2.2 h'.1 (by
      rw [← h.1.1, ← h'.1.1]
      exact (Lm.digits_length vb _).2 (Nat.lt_of_le_of_lt hle ((Lm.digits_length va _).1 (Nat.le_refl _)))) (by rw [Lm.val_digits, Lm.val_digits]; exact hle)
  rwa [Lm.val_digits, Lm.val_digits] at this
theorem fit_row (w : World) (base : Nat) (g : Bool) (A : Option Addr) (n c : Nat) (t : List Nat) (v : Nat) (h : Own w base A n c t) (hn : n ≤ 1000) (hv : Lm.val t = v) :
    Calls Try.prog 35 #[.bool g, .slice A n c] w (OnePost w (sgn g v)) := by
  rw [← hv]
  exact fit_any w g A n c t h.lim hn h.cap.2

set_option maxHeartbeats 2000000 in
theorem refAdd_same (w : World) (g g' : Bool) (A B : Option Addr) (n c m d : Nat) (l k : List Nat) (h : Raw w A n c l) (h' : Raw w B m d k) (hm : mayB g l = true) (hm' : mayB g' k = true) (hg : g = g') :
    Calls Try.prog 14 #[.agg #[.bool g, .slice A n c], .agg #[.bool g', .slice B m d]] w (NumPost w (clip (sgn g (Lm.val l + Lm.val k))) (fits (sgn g (Lm.val l + Lm.val k)))) := by
  subst hg
  have hn8 : n ≤ 8 := by have := mayB_len hm; rw [h.1.1] at this; exact this
  have hm8 : m ≤ 8 := by have := mayB_len hm'; rw [h'.1.1] at this; exact this
  go_enter Try.func14, Try.ntmps14
  go_wp2_with fail
  have hb0 := (((Below.refl w.heap.size w).alloc (Nat.le_refl _) (.cells #[.bool g, .slice A n c] 24)).alloc (by simp) (.cells #[.bool g, .slice B m d] 24)).alloc (by simp; omega) (.cells #[.bool false, .slice none 0 0] 24)
  have hxa := ((Box.new w (.bool g) (.slice A n c)).alloc (.cells #[.bool g, .slice B m d] 24)).alloc (.cells #[.bool false, .slice none 0 0] 24)
  have hxb := (Box.new (w.alloc (.cells #[.bool g, .slice A n c] 24)) (.bool g) (.slice B m d)).alloc (.cells #[.bool false, .slice none 0 0] 24)
  have hxr := Box.new ((w.alloc (.cells #[.bool g, .slice A n c] 24)).alloc (.cells #[.bool g, .slice B m d] 24)) (.bool false) (.slice none 0 0)
  simp only [World.size_alloc] at hxb hxr
  have hAA := h.below hb0
  have hBB := h'.below hb0
  generalize ((w.alloc (.cells #[.bool g, .slice A n c] 24)).alloc (.cells #[.bool g, .slice B m d] 24)).alloc (.cells #[.bool false, .slice none 0 0] 24) = W at *
  have x1 := hxa.c0
  have x2 := hxa.c1
  refine (refMay_b W g A n c l hAA).mono ?_
  rintro e w1 ⟨rfl, hb1⟩
  have ya := hxa.below' hb1
  have yb := hxb.below' hb1
  have yr := hxr.below' hb1
  replace hAA := hAA.below hb1
  replace hBB := hBB.below hb1
  replace hb0 := hb0.trans (hb1.mono hb0.size)
  clear hxa hxb hxr x1 x2 hb1
  have x1 := ya.c0
  have x2 := ya.c1
  have x3 := yb.c0
  have x4 := yb.c1
  go_wp2_with fail
  refine (refMay_b w1 g B m d k hBB).mono ?_
  rintro e w2 ⟨rfl, hb2⟩
  have za := ya.below' hb2
  have zb := yb.below' hb2
  have zr := yr.below' hb2
  replace hAA := hAA.below hb2
  replace hBB := hBB.below hb2
  replace hb0 := hb0.trans (hb2.mono hb0.size)
  clear ya yb yr x1 x2 x3 x4 hb2
  have x1 := za.c0
  have x2 := za.c1
  have x3 := zb.c0
  have x4 := zb.c1
  have aA := hAA.arg hm
  have aB := hBB.arg hm'
  go_wp2
  have ne1 : w.heap.size ≠ w.heap.size + 1 + 1 := by omega
  have ne2 : w.heap.size + 1 ≠ w.heap.size + 1 + 1 := by omega
  go_region_held3 (fun w' => w'.cell? ⟨w.heap.size, 0, none⟩ = some (.bool g) ∧ w'.cell? ⟨w.heap.size, 1, none⟩ = some (.slice A n c) ∧ w'.cell? ⟨w.heap.size + 1, 0, none⟩ = some (.bool g) ∧ w'.cell? ⟨w.heap.size + 1, 1, none⟩ = some (.slice B m d))
    (first | exact ⟨x1, x2, x3, x4⟩ | exact ⟨ua.c0, ua.c1, ub.c0, ub.c1⟩ | exact ⟨ta.c0, ta.c1, tb.c0, tb.c1⟩ | exact ⟨sa.c0, sa.c1, sb.c0, sb.c1⟩ | exact ⟨((sa.far (p := ⟨w.heap.size + 1 + 1, 0, none⟩) ne1 _).far (p := ⟨w.heap.size + 1 + 1, 1, none⟩) ne1 _).c0, ((sa.far (p := ⟨w.heap.size + 1 + 1, 0, none⟩) ne1 _).far (p := ⟨w.heap.size + 1 + 1, 1, none⟩) ne1 _).c1, ((sb.far (p := ⟨w.heap.size + 1 + 1, 0, none⟩) ne2 _).far (p := ⟨w.heap.size + 1 + 1, 1, none⟩) ne2 _).c0, ((sb.far (p := ⟨w.heap.size + 1 + 1, 0, none⟩) ne2 _).far (p := ⟨w.heap.size + 1 + 1, 1, none⟩) ne2 _).c1⟩)
    (first
      | (go_at_call 36; refine (plus_row _ A B n c m d (Lm.val l) (Lm.val k) (by exact aA) (by exact aB)).mono ?_; rintro e w3 ⟨A1, c1, t, rfl, ho1, hv1, hb1⟩; have ua := Box.below' (w := w2.drew) za hb1; have ub := Box.below' (w := w2.drew) zb hb1; have ur := Box.below' (w := w2.drew) zr hb1; have Hv1 := Lib.hid hv1; clear hv1)
      | (go_at_call 35; refine (fit_row _ _ g A1 _ c1 t _ (by exact ho1) (by omega) (by exact Hv1.out)).mono ?_; rintro e w4 ⟨_, rfl, ⟨s3, A3, n3, c3, rfl, hs3, ho3⟩, hb2⟩; have ta := ua.below' hb2; have tb := ub.below' hb2; have tr := ur.below' hb2)
      | (go_at_call 34; refine (refMayB_any _ _ s3 A3 n3 c3 _ hs3 (by exact ho3)).mono ?_; rintro e w5 ⟨_, rfl, ⟨s2, A2, n2, c2, rfl, hs2, ho2⟩, hb3⟩; have sa := ta.below' hb3; have sb := tb.below' hb3; have sr := tr.below' hb3; have z0 := sr.c0; have z1 := sr.c1; have z2 := sr.f0; have z3 := sr.f1))
  go_wp2
  have hsz := hb0.size
  have bq := ((Below.drew (Below.refl _ w2)).trans (hb1.mono (by simpa using hsz))).trans (hb2.mono (by have := hb1.size; simp at this; omega))
  obtain ⟨hB, hNV, hbl⟩ := close_num (base' := w.heap.size) sr (by omega) (hb0.trans (bq.trans (hb3.mono (by have h1 := hb1.size; have h2 := hb2.size; simp at h1; omega)))) hs2 ho2 (by have h1 := hb1.size; simp at h1; omega)
  generalize (w5.setCell ⟨w.heap.size + 1 + 1, 0, none⟩ (.bool s2)).setCell ⟨w.heap.size + 1 + 1, 1, none⟩ (.slice A2 n2 c2) = W2 at *
  have hy0 := hB.c0
  have hy1 := hB.c1
  skip
  exact bodyPost_ret (v := .tuple #[.agg #[.bool s2, .slice A2 n2 c2], .bool (fits (sgn g (Lm.val l + Lm.val k)))]) (by simp [results, Try.results14, go_sem, hy0, hy1]) rfl ⟨_, rfl, hNV, hbl⟩

set_option maxHeartbeats 2000000 in
theorem refAdd_more (w : World) (g g' : Bool) (A B : Option Addr) (n c m d : Nat) (l k : List Nat) (h : Raw w A n c l) (h' : Raw w B m d k) (hm : mayB g l = true) (hm' : mayB g' k = true) (hg : g ≠ g') (hlt : Lm.val k ≤ Lm.val l) :
    Calls Try.prog 14 #[.agg #[.bool g, .slice A n c], .agg #[.bool g', .slice B m d]] w (NumPost w (clip (sgn g (Lm.val l - Lm.val k))) (fits (sgn g (Lm.val l - Lm.val k)))) := by
  have hgg : (g == g') = false := by simpa using hg
  have HL := Lib.hid hlt
  have hcm : decide (0 ≤ Lm.cmpN (Lm.val l) (Lm.val k)) = true := by rw [decide_eq_true_iff]; have := (Lm.cmpN_lt (a := Lm.val l) (b := Lm.val k)); omega
  clear hlt
  have hn8 : n ≤ 8 := by have := mayB_len hm; rw [h.1.1] at this; exact this
  have hm8 : m ≤ 8 := by have := mayB_len hm'; rw [h'.1.1] at this; exact this
  go_enter Try.func14, Try.ntmps14
  go_wp2_with fail
  have hb0 := (((Below.refl w.heap.size w).alloc (Nat.le_refl _) (.cells #[.bool g, .slice A n c] 24)).alloc (by simp) (.cells #[.bool g', .slice B m d] 24)).alloc (by simp; omega) (.cells #[.bool false, .slice none 0 0] 24)
  have hxa := ((Box.new w (.bool g) (.slice A n c)).alloc (.cells #[.bool g', .slice B m d] 24)).alloc (.cells #[.bool false, .slice none 0 0] 24)
  have hxb := (Box.new (w.alloc (.cells #[.bool g, .slice A n c] 24)) (.bool g') (.slice B m d)).alloc (.cells #[.bool false, .slice none 0 0] 24)
  have hxr := Box.new ((w.alloc (.cells #[.bool g, .slice A n c] 24)).alloc (.cells #[.bool g', .slice B m d] 24)) (.bool false) (.slice none 0 0)
  simp only [World.size_alloc] at hxb hxr
  have hAA := h.below hb0
  have hBB := h'.below hb0
  generalize ((w.alloc (.cells #[.bool g, .slice A n c] 24)).alloc (.cells #[.bool g', .slice B m d] 24)).alloc (.cells #[.bool false, .slice none 0 0] 24) = W at *
  have x1 := hxa.c0
  have x2 := hxa.c1
  refine (refMay_b W g A n c l hAA).mono ?_
  rintro e w1 ⟨rfl, hb1⟩
  have ya := hxa.below' hb1
  have yb := hxb.below' hb1
  have yr := hxr.below' hb1
  replace hAA := hAA.below hb1
  replace hBB := hBB.below hb1
  replace hb0 := hb0.trans (hb1.mono hb0.size)
  clear hxa hxb hxr x1 x2 hb1
  have x1 := ya.c0
  have x2 := ya.c1
  have x3 := yb.c0
  have x4 := yb.c1
  go_wp2_with fail
  refine (refMay_b w1 g' B m d k hBB).mono ?_
  rintro e w2 ⟨rfl, hb2⟩
  have za := ya.below' hb2
  have zb := yb.below' hb2
  have zr := yr.below' hb2
  replace hAA := hAA.below hb2
  replace hBB := hBB.below hb2
  replace hb0 := hb0.trans (hb2.mono hb0.size)
  clear ya yb yr x1 x2 x3 x4 hb2
  have x1 := za.c0
  have x2 := za.c1
  have x3 := zb.c0
  have x4 := zb.c1
  have aA := hAA.arg hm
  have aB := hBB.arg hm'
  go_wp2_with fail
  refine (size_any w2 A B n c m d l k hAA.1 hAA.2 hBB.1 hBB.2 (mayB_canon hm) (mayB_canon hm')).mono ?_
  rintro e wq ⟨rfl, qq, rfl⟩
  replace hb0 := hb0.drewN' qq
  replace za := za.drewN qq
  replace zb := zb.drewN qq
  replace zr := zr.drewN qq
  replace aA := aA.drewN qq
  replace aB := aB.drewN qq
  clear hAA hBB x1 x2 x3 x4
  generalize w2.drewN qq = w2 at *
  have x1 := za.c0
  have x2 := za.c1
  have x3 := zb.c0
  have x4 := zb.c1
  go_wp2
  have ne1 : w.heap.size ≠ w.heap.size + 1 + 1 := by omega
  have ne2 : w.heap.size + 1 ≠ w.heap.size + 1 + 1 := by omega
  go_region_held3 (fun w' => w'.cell? ⟨w.heap.size, 0, none⟩ = some (.bool g) ∧ w'.cell? ⟨w.heap.size, 1, none⟩ = some (.slice A n c) ∧ w'.cell? ⟨w.heap.size + 1, 0, none⟩ = some (.bool g') ∧ w'.cell? ⟨w.heap.size + 1, 1, none⟩ = some (.slice B m d))
    (first | exact ⟨x1, x2, x3, x4⟩ | exact ⟨ua.c0, ua.c1, ub.c0, ub.c1⟩ | exact ⟨ta.c0, ta.c1, tb.c0, tb.c1⟩ | exact ⟨sa.c0, sa.c1, sb.c0, sb.c1⟩ | exact ⟨((sa.far (p := ⟨w.heap.size + 1 + 1, 0, none⟩) ne1 _).far (p := ⟨w.heap.size + 1 + 1, 1, none⟩) ne1 _).c0, ((sa.far (p := ⟨w.heap.size + 1 + 1, 0, none⟩) ne1 _).far (p := ⟨w.heap.size + 1 + 1, 1, none⟩) ne1 _).c1, ((sb.far (p := ⟨w.heap.size + 1 + 1, 0, none⟩) ne2 _).far (p := ⟨w.heap.size + 1 + 1, 1, none⟩) ne2 _).c0, ((sb.far (p := ⟨w.heap.size + 1 + 1, 0, none⟩) ne2 _).far (p := ⟨w.heap.size + 1 + 1, 1, none⟩) ne2 _).c1⟩)
    (first
      | (go_at_call 38; refine (minus_row _ A B n c m d (Lm.val l) (Lm.val k) (by exact aA) (by exact aB) HL.out).mono ?_; rintro e w3 ⟨A1, c1, t, rfl, ho1, hv1, hb1⟩; have ua := Box.below' (w := w2.drew) za hb1; have ub := Box.below' (w := w2.drew) zb hb1; have ur := Box.below' (w := w2.drew) zr hb1; have Hv1 := Lib.hid hv1; clear hv1)
      | (go_at_call 35; refine (fit_row _ _ g A1 _ c1 t _ (by exact ho1) (by omega) (by exact Hv1.out)).mono ?_; rintro e w4 ⟨_, rfl, ⟨s3, A3, n3, c3, rfl, hs3, ho3⟩, hb2⟩; have ta := ua.below' hb2; have tb := ub.below' hb2; have tr := ur.below' hb2)
      | (go_at_call 34; refine (refMayB_any _ _ s3 A3 n3 c3 _ hs3 (by exact ho3)).mono ?_; rintro e w5 ⟨_, rfl, ⟨s2, A2, n2, c2, rfl, hs2, ho2⟩, hb3⟩; have sa := ta.below' hb3; have sb := tb.below' hb3; have sr := tr.below' hb3; have z0 := sr.c0; have z1 := sr.c1; have z2 := sr.f0; have z3 := sr.f1))
  go_wp2
  have hsz := hb0.size
  have bq := ((Below.drew (Below.refl _ w2)).trans (hb1.mono (by simpa using hsz))).trans (hb2.mono (by have := hb1.size; simp at this; omega))
  obtain ⟨hB, hNV, hbl⟩ := close_num (base' := w.heap.size) sr (by omega) (hb0.trans (bq.trans (hb3.mono (by have h1 := hb1.size; have h2 := hb2.size; simp at h1; omega)))) hs2 ho2 (by have h1 := hb1.size; simp at h1; omega)
  generalize (w5.setCell ⟨w.heap.size + 1 + 1, 0, none⟩ (.bool s2)).setCell ⟨w.heap.size + 1 + 1, 1, none⟩ (.slice A2 n2 c2) = W2 at *
  have hy0 := hB.c0
  have hy1 := hB.c1
  skip
  exact bodyPost_ret (v := .tuple #[.agg #[.bool s2, .slice A2 n2 c2], .bool (fits (sgn g (Lm.val l - Lm.val k)))]) (by simp [results, Try.results14, go_sem, hy0, hy1]) rfl ⟨_, rfl, hNV, hbl⟩

set_option maxHeartbeats 2000000 in
theorem refAdd_less (w : World) (g g' : Bool) (A B : Option Addr) (n c m d : Nat) (l k : List Nat) (h : Raw w A n c l) (h' : Raw w B m d k) (hm : mayB g l = true) (hm' : mayB g' k = true) (hg : g ≠ g') (hlt : Lm.val l < Lm.val k) :
    Calls Try.prog 14 #[.agg #[.bool g, .slice A n c], .agg #[.bool g', .slice B m d]] w (NumPost w (clip (sgn g' (Lm.val k - Lm.val l))) (fits (sgn g' (Lm.val k - Lm.val l)))) := by
  have hgg : (g == g') = false := by simpa using hg
  have HL := Lib.hid hlt
  have hcm : decide (0 ≤ Lm.cmpN (Lm.val l) (Lm.val k)) = false := by rw [decide_eq_false_iff_not]; have := (Lm.cmpN_lt (a := Lm.val l) (b := Lm.val k)).2 hlt; omega
  clear hlt
  have hn8 : n ≤ 8 := by have := mayB_len hm; rw [h.1.1] at this; exact this
  have hm8 : m ≤ 8 := by have := mayB_len hm'; rw [h'.1.1] at this; exact this
  go_enter Try.func14, Try.ntmps14
  go_wp2_with fail
  have hb0 := (((Below.refl w.heap.size w).alloc (Nat.le_refl _) (.cells #[.bool g, .slice A n c] 24)).alloc (by simp) (.cells #[.bool g', .slice B m d] 24)).alloc (by simp; omega) (.cells #[.bool false, .slice none 0 0] 24)
  have hxa := ((Box.new w (.bool g) (.slice A n c)).alloc (.cells #[.bool g', .slice B m d] 24)).alloc (.cells #[.bool false, .slice none 0 0] 24)
  have hxb := (Box.new (w.alloc (.cells #[.bool g, .slice A n c] 24)) (.bool g') (.slice B m d)).alloc (.cells #[.bool false, .slice none 0 0] 24)
  have hxr := Box.new ((w.alloc (.cells #[.bool g, .slice A n c] 24)).alloc (.cells #[.bool g', .slice B m d] 24)) (.bool false) (.slice none 0 0)
  simp only [World.size_alloc] at hxb hxr
  have hAA := h.below hb0
  have hBB := h'.below hb0
  generalize ((w.alloc (.cells #[.bool g, .slice A n c] 24)).alloc (.cells #[.bool g', .slice B m d] 24)).alloc (.cells #[.bool false, .slice none 0 0] 24) = W at *
  have x1 := hxa.c0
  have x2 := hxa.c1
  refine (refMay_b W g A n c l hAA).mono ?_
  rintro e w1 ⟨rfl, hb1⟩
  have ya := hxa.below' hb1
  have yb := hxb.below' hb1
  have yr := hxr.below' hb1
  replace hAA := hAA.below hb1
  replace hBB := hBB.below hb1
  replace hb0 := hb0.trans (hb1.mono hb0.size)
  clear hxa hxb hxr x1 x2 hb1
  have x1 := ya.c0
  have x2 := ya.c1
  have x3 := yb.c0
  have x4 := yb.c1
  go_wp2_with fail
  refine (refMay_b w1 g' B m d k hBB).mono ?_
  rintro e w2 ⟨rfl, hb2⟩
  have za := ya.below' hb2
  have zb := yb.below' hb2
  have zr := yr.below' hb2
  replace hAA := hAA.below hb2
  replace hBB := hBB.below hb2
  replace hb0 := hb0.trans (hb2.mono hb0.size)
  clear ya yb yr x1 x2 x3 x4 hb2
  have x1 := za.c0
  have x2 := za.c1
  have x3 := zb.c0
  have x4 := zb.c1
  have aA := hAA.arg hm
  have aB := hBB.arg hm'
  go_wp2_with fail
  refine (size_any w2 A B n c m d l k hAA.1 hAA.2 hBB.1 hBB.2 (mayB_canon hm) (mayB_canon hm')).mono ?_
  rintro e wq ⟨rfl, qq, rfl⟩
  replace hb0 := hb0.drewN' qq
  replace za := za.drewN qq
  replace zb := zb.drewN qq
  replace zr := zr.drewN qq
  replace aA := aA.drewN qq
  replace aB := aB.drewN qq
  clear hAA hBB x1 x2 x3 x4
  generalize w2.drewN qq = w2 at *
  have x1 := za.c0
  have x2 := za.c1
  have x3 := zb.c0
  have x4 := zb.c1
  go_wp2
  have ne1 : w.heap.size ≠ w.heap.size + 1 + 1 := by omega
  have ne2 : w.heap.size + 1 ≠ w.heap.size + 1 + 1 := by omega
  go_region_held3 (fun w' => w'.cell? ⟨w.heap.size, 0, none⟩ = some (.bool g) ∧ w'.cell? ⟨w.heap.size, 1, none⟩ = some (.slice A n c) ∧ w'.cell? ⟨w.heap.size + 1, 0, none⟩ = some (.bool g') ∧ w'.cell? ⟨w.heap.size + 1, 1, none⟩ = some (.slice B m d))
    (first | exact ⟨x1, x2, x3, x4⟩ | exact ⟨ua.c0, ua.c1, ub.c0, ub.c1⟩ | exact ⟨ta.c0, ta.c1, tb.c0, tb.c1⟩ | exact ⟨sa.c0, sa.c1, sb.c0, sb.c1⟩ | exact ⟨((sa.far (p := ⟨w.heap.size + 1 + 1, 0, none⟩) ne1 _).far (p := ⟨w.heap.size + 1 + 1, 1, none⟩) ne1 _).c0, ((sa.far (p := ⟨w.heap.size + 1 + 1, 0, none⟩) ne1 _).far (p := ⟨w.heap.size + 1 + 1, 1, none⟩) ne1 _).c1, ((sb.far (p := ⟨w.heap.size + 1 + 1, 0, none⟩) ne2 _).far (p := ⟨w.heap.size + 1 + 1, 1, none⟩) ne2 _).c0, ((sb.far (p := ⟨w.heap.size + 1 + 1, 0, none⟩) ne2 _).far (p := ⟨w.heap.size + 1 + 1, 1, none⟩) ne2 _).c1⟩)
    (first
      | (go_at_call 38; refine (minus_row _ B A m d n c (Lm.val k) (Lm.val l) (by exact aB) (by exact aA) (Nat.le_of_lt HL.out)).mono ?_; rintro e w3 ⟨A1, c1, t, rfl, ho1, hv1, hb1⟩; have ua := Box.below' (w := w2.drew) za hb1; have ub := Box.below' (w := w2.drew) zb hb1; have ur := Box.below' (w := w2.drew) zr hb1; have Hv1 := Lib.hid hv1; clear hv1)
      | (go_at_call 35; refine (fit_row _ _ g' A1 _ c1 t _ (by exact ho1) (by omega) (by exact Hv1.out)).mono ?_; rintro e w4 ⟨_, rfl, ⟨s3, A3, n3, c3, rfl, hs3, ho3⟩, hb2⟩; have ta := ua.below' hb2; have tb := ub.below' hb2; have tr := ur.below' hb2)
      | (go_at_call 34; refine (refMayB_any _ _ s3 A3 n3 c3 _ hs3 (by exact ho3)).mono ?_; rintro e w5 ⟨_, rfl, ⟨s2, A2, n2, c2, rfl, hs2, ho2⟩, hb3⟩; have sa := ta.below' hb3; have sb := tb.below' hb3; have sr := tr.below' hb3; have z0 := sr.c0; have z1 := sr.c1; have z2 := sr.f0; have z3 := sr.f1))
  go_wp2
  have hsz := hb0.size
  have bq := ((Below.drew (Below.refl _ w2)).trans (hb1.mono (by simpa using hsz))).trans (hb2.mono (by have := hb1.size; simp at this; omega))
  obtain ⟨hB, hNV, hbl⟩ := close_num (base' := w.heap.size) sr (by omega) (hb0.trans (bq.trans (hb3.mono (by have h1 := hb1.size; have h2 := hb2.size; simp at h1; omega)))) hs2 ho2 (by have h1 := hb1.size; simp at h1; omega)
  generalize (w5.setCell ⟨w.heap.size + 1 + 1, 0, none⟩ (.bool s2)).setCell ⟨w.heap.size + 1 + 1, 1, none⟩ (.slice A2 n2 c2) = W2 at *
  have hy0 := hB.c0
  have hy1 := hB.c1
  skip
  exact bodyPost_ret (v := .tuple #[.agg #[.bool s2, .slice A2 n2 c2], .bool (fits (sgn g' (Lm.val k - Lm.val l)))]) (by simp [results, Try.results14, go_sem, hy0, hy1]) rfl ⟨_, rfl, hNV, hbl⟩

end Go.Proofs.Ytlmojomnebjhaaa
