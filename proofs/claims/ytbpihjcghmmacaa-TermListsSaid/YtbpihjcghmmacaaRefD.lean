/-
  CONTRACTS OF THE LAWS' OWN FUNCTIONS ON INTEGERS (beehiveref1): Add whole, Sub, Cmp.
-/
import Derived.Test.YtbpihjcghmmacaaRefC
namespace Go.Proofs.Ytbpihjcghmmacaa
open Go.RowKit

set_option maxHeartbeats 1000000 in
theorem refCmp_no1 (w : World) (g g' : Bool) (A B : Option Addr) (n c m d : Nat) (l k : List Nat) (h : Raw w A n c l) (h' : Raw w B m d k) (hm : mayB g l = false) : Calls Try.prog 25 #[.agg #[.bool g, .slice A n c], .agg #[.bool g', .slice B m d]] w (IntPost w 0) := by
  go_enter Try.func25, Try.ntmps25
  go_wp2_with fail
  have hb0 := (((Below.refl w.heap.size w).alloc (Nat.le_refl _) (.cells #[.bool g, .slice A n c] 24)).alloc (by simp) (.cells #[.bool g', .slice B m d] 24))
  have hxa := ((Box.new w (.bool g) (.slice A n c)).alloc (.cells #[.bool g', .slice B m d] 24))
  have hxb := (Box.new (w.alloc (.cells #[.bool g, .slice A n c] 24)) (.bool g') (.slice B m d))
  simp only [World.size_alloc] at hxb
  have hAA := h.below hb0
  have hBB := h'.below hb0
  generalize ((w.alloc (.cells #[.bool g, .slice A n c] 24)).alloc (.cells #[.bool g', .slice B m d] 24)) = W at *
  have x1 := hxa.c0
  have x2 := hxa.c1
  refine (refMay_b W g A n c l hAA).mono ?_
  rintro e w1 ⟨rfl, hb1⟩
  have ya := hxa.below' hb1
  have yb := hxb.below' hb1
  skip
  replace hAA := hAA.below hb1
  replace hBB := hBB.below hb1
  replace hb0 := hb0.trans (hb1.mono hb0.size)
  clear hxa hxb  x1 x2 hb1
  have x1 := ya.c0
  have x2 := ya.c1
  have x3 := yb.c0
  have x4 := yb.c1
  go_wp2
  go_ret
  exact ⟨rfl, hb0⟩
set_option maxHeartbeats 1000000 in
theorem refCmp_no2 (w : World) (g g' : Bool) (A B : Option Addr) (n c m d : Nat) (l k : List Nat) (h : Raw w A n c l) (h' : Raw w B m d k) (hm : mayB g l = true) (hm' : mayB g' k = false) : Calls Try.prog 25 #[.agg #[.bool g, .slice A n c], .agg #[.bool g', .slice B m d]] w (IntPost w 0) := by
  go_enter Try.func25, Try.ntmps25
  go_wp2_with fail
  have hb0 := (((Below.refl w.heap.size w).alloc (Nat.le_refl _) (.cells #[.bool g, .slice A n c] 24)).alloc (by simp) (.cells #[.bool g', .slice B m d] 24))
  have hxa := ((Box.new w (.bool g) (.slice A n c)).alloc (.cells #[.bool g', .slice B m d] 24))
  have hxb := (Box.new (w.alloc (.cells #[.bool g, .slice A n c] 24)) (.bool g') (.slice B m d))
  simp only [World.size_alloc] at hxb
  have hAA := h.below hb0
  have hBB := h'.below hb0
  generalize ((w.alloc (.cells #[.bool g, .slice A n c] 24)).alloc (.cells #[.bool g', .slice B m d] 24)) = W at *
  have x1 := hxa.c0
  have x2 := hxa.c1
  refine (refMay_b W g A n c l hAA).mono ?_
  rintro e w1 ⟨rfl, hb1⟩
  have ya := hxa.below' hb1
  have yb := hxb.below' hb1
  skip
  replace hAA := hAA.below hb1
  replace hBB := hBB.below hb1
  replace hb0 := hb0.trans (hb1.mono hb0.size)
  clear hxa hxb  x1 x2 hb1
  have x1 := ya.c0
  have x2 := ya.c1
  have x3 := yb.c0
  have x4 := yb.c1
  go_wp2_with fail
  refine (refMay_b w1 g' B m d k hBB).mono ?_
  rintro e w2 ⟨rfl, hb2⟩
  have za := ya.below' hb2
  have zb := yb.below' hb2
  skip
  replace hAA := hAA.below hb2
  replace hBB := hBB.below hb2
  replace hb0 := hb0.trans (hb2.mono hb0.size)
  clear ya yb  x1 x2 x3 x4 hb2
  have x1 := za.c0
  have x2 := za.c1
  have x3 := zb.c0
  have x4 := zb.c1
  go_wp2
  go_ret
  exact ⟨rfl, hb0⟩
set_option maxHeartbeats 2000000 in
theorem refCmp_yes (w : World) (g g' : Bool) (A B : Option Addr) (n c m d : Nat) (l k : List Nat) (h : Raw w A n c l) (h' : Raw w B m d k) (hm : mayB g l = true) (hm' : mayB g' k = true) :
    Calls Try.prog 25 #[.agg #[.bool g, .slice A n c], .agg #[.bool g', .slice B m d]] w (IntPost w (cmpZ (sgn g (Lm.val l)) (sgn g' (Lm.val k)))) := by
  have hsl := h.1.2.2.1
  have hsk := h'.1.2.2.1
  go_enter Try.func25, Try.ntmps25
  go_wp2_with fail
  have hb0 := (((Below.refl w.heap.size w).alloc (Nat.le_refl _) (.cells #[.bool g, .slice A n c] 24)).alloc (by simp) (.cells #[.bool g', .slice B m d] 24))
  have hxa := ((Box.new w (.bool g) (.slice A n c)).alloc (.cells #[.bool g', .slice B m d] 24))
  have hxb := (Box.new (w.alloc (.cells #[.bool g, .slice A n c] 24)) (.bool g') (.slice B m d))
  simp only [World.size_alloc] at hxb
  have hAA := h.below hb0
  have hBB := h'.below hb0
  generalize ((w.alloc (.cells #[.bool g, .slice A n c] 24)).alloc (.cells #[.bool g', .slice B m d] 24)) = W at *
  have x1 := hxa.c0
  have x2 := hxa.c1
  refine (refMay_b W g A n c l hAA).mono ?_
  rintro e w1 ⟨rfl, hb1⟩
  have ya := hxa.below' hb1
  have yb := hxb.below' hb1
  skip
  replace hAA := hAA.below hb1
  replace hBB := hBB.below hb1
  replace hb0 := hb0.trans (hb1.mono hb0.size)
  clear hxa hxb  x1 x2 hb1
  have x1 := ya.c0
  have x2 := ya.c1
  have x3 := yb.c0
  have x4 := yb.c1
  go_wp2_with fail
  refine (refMay_b w1 g' B m d k hBB).mono ?_
  rintro e w2 ⟨rfl, hb2⟩
  have za := ya.below' hb2
  have zb := yb.below' hb2
  skip
  replace hAA := hAA.below hb2
  replace hBB := hBB.below hb2
  replace hb0 := hb0.trans (hb2.mono hb0.size)
  clear ya yb  x1 x2 x3 x4 hb2
  have x1 := za.c0
  have x2 := za.c1
  have x3 := zb.c0
  have x4 := zb.c1
  cases g with
  | true =>
    cases g' with
    | true =>
      have fin := Lib.hid (show Lm.cmpN (Lm.val k) (Lm.val l) = cmpZ (sgn true (Lm.val l)) (sgn true (Lm.val k)) by simp [Lm.cmpN, cmpZ, sgn])
      go_wp2_with fail
      refine (size_any w2 B A m d n c k l hBB.1 hBB.2 hAA.1 hAA.2 (mayB_canon hm') (mayB_canon hm)).mono ?_
      rintro e w' ⟨rfl, q, rfl⟩
      go_wp2
      go_ret
      rw [← fin.out]
      exact ⟨rfl, hb0.drewN' q⟩
    | false =>
      have hp := val_pos_of_neg hm hsl
      have fin := Lib.hid (show cmpZ (sgn true (Lm.val l)) (sgn false (Lm.val k)) = -1 by have e1 : sgn true (Lm.val l) = -(Lm.val l : Int) := rfl; have e2 : sgn false (Lm.val k) = (Lm.val k : Int) := rfl; rw [e1, e2]; unfold cmpZ; rw [if_pos (by omega)])
      go_wp2
      go_ret
      rw [fin.out]
      exact ⟨rfl, hb0⟩
  | false =>
    cases g' with
    | true =>
      have hp := val_pos_of_neg hm' hsk
      have fin := Lib.hid (show cmpZ (sgn false (Lm.val l)) (sgn true (Lm.val k)) = 1 by have e1 : sgn false (Lm.val l) = (Lm.val l : Int) := rfl; have e2 : sgn true (Lm.val k) = -(Lm.val k : Int) := rfl; rw [e1, e2]; unfold cmpZ; rw [if_neg (by omega), if_pos (by omega)])
      go_wp2
      go_ret
      rw [fin.out]
      exact ⟨rfl, hb0⟩
    | false =>
      have fin := Lib.hid (show Lm.cmpN (Lm.val l) (Lm.val k) = cmpZ (sgn false (Lm.val l)) (sgn false (Lm.val k)) by simp [Lm.cmpN, cmpZ, sgn])
      go_wp2_with fail
      refine (size_any w2 A B n c m d l k hAA.1 hAA.2 hBB.1 hBB.2 (mayB_canon hm) (mayB_canon hm')).mono ?_
      rintro e w' ⟨rfl, q, rfl⟩
      go_wp2
      go_ret
      rw [← fin.out]
      exact ⟨rfl, hb0.drewN' q⟩

end Go.Proofs.Ytbpihjcghmmacaa
