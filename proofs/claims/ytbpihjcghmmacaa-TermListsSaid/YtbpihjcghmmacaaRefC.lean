/-
  CONTRACTS OF THE LAWS' OWN FUNCTIONS ON INTEGERS (beehiveref1): Of, Neg, Add.
-/
import Derived.Test.YtbpihjcghmmacaaRefB
namespace Go.Proofs.Ytbpihjcghmmacaa
open Go.RowKit

set_option maxHeartbeats 1000000 in
theorem refOf_neg (w : World) (z : Int) (h1 : -9223372036854775808 ≤ z) (h2 : z < 0) :
    Calls Try.prog 35 #[.int .i64 z] w (OnePost w z) := by
  obtain ⟨t, ht, htl, hts, htv⟩ := of_limbs_neg z h1 h2
  have hT := Lib.hid ht
  have hL := Lib.hid htl
  have hV := Lib.hid htv
  clear ht htl htv
  go_enter Try.func35, Try.ntmps35
  go_wp2_with fail
  rw [hT.out]
  have hb0 := ((Below.refl w.heap.size w).alloc (Nat.le_refl _) (.cells #[.bool false, .slice none 0 0] 24)).alloc (by simp) (.cells (arr t) 50)
  have hxr := (Box.new w (.bool false) (.slice none 0 0)).alloc (.cells (arr t) 50)
  have hown : Own ((w.alloc (.cells #[.bool false, .slice none 0 0] 24)).alloc (.cells (arr t) 50)) w.heap.size (some ⟨w.heap.size + 1, 0, none⟩) 2 2 t := by
    have := Own.new (w.alloc (.cells #[.bool false, .slice none 0 0] 24)) w.heap.size t hts (by simp) (by rw [hL.out]; decide)
    rw [hL.out] at this
    simpa using this
  generalize (w.alloc (.cells #[.bool false, .slice none 0 0] 24)).alloc (.cells (arr t) 50) = W at *
  refine (fit_any W true _ 2 2 t hown.lim (by decide) (by decide)).mono ?_
  have hzz : sgn true (Lm.val t) = z := by rw [hV.out]; unfold sgn; simp; omega
  rw [hzz]
  clear hzz
  rintro e w1 ⟨_, rfl, ⟨s1, A1, n1, c1, rfl, hs1, ho1⟩, hb⟩
  have r := hxr.below' hb
  have x0 := r.c0
  have x1 := r.c1
  have f0 := r.f0
  have f1 := r.f1
  go_wp2
  obtain ⟨hB, hNV, hbl⟩ := close_num (base' := w.heap.size) r (Nat.le_refl _) (hb0.trans (hb.mono hb0.size)) hs1 ho1 hb0.size
  generalize (w1.setCell ⟨w.heap.size, 0, none⟩ (.bool s1)).setCell ⟨w.heap.size, 1, none⟩ (.slice A1 n1 c1) = W2 at *
  have hy0 := hB.c0
  have hy1 := hB.c1
  exact bodyPost_ret (v := .agg #[.bool s1, .slice A1 n1 c1]) (by simp [results, Try.results35, go_sem, hy0, hy1]) rfl ⟨_, rfl, hNV, hbl⟩

set_option maxHeartbeats 1000000 in
theorem refOf_pos (w : World) (z : Int) (h1 : 0 ≤ z) (h2 : z ≤ 9223372036854775807) :
    Calls Try.prog 35 #[.int .i64 z] w (OnePost w z) := by
  obtain ⟨t, ht, htl, hts, htv⟩ := of_limbs_pos z h1 h2
  have hT := Lib.hid ht
  have hL := Lib.hid htl
  have hV := Lib.hid htv
  clear ht htl htv
  have hz0 : decide (z < 0) = false := by rw [decide_eq_false_iff_not]; omega
  go_enter Try.func35, Try.ntmps35
  go_wp2_with fail
  rw [hT.out]
  have hb0 := ((Below.refl w.heap.size w).alloc (Nat.le_refl _) (.cells #[.bool false, .slice none 0 0] 24)).alloc (by simp) (.cells (arr t) 50)
  have hxr := (Box.new w (.bool false) (.slice none 0 0)).alloc (.cells (arr t) 50)
  have hown : Own ((w.alloc (.cells #[.bool false, .slice none 0 0] 24)).alloc (.cells (arr t) 50)) w.heap.size (some ⟨w.heap.size + 1, 0, none⟩) 2 2 t := by
    have := Own.new (w.alloc (.cells #[.bool false, .slice none 0 0] 24)) w.heap.size t hts (by simp) (by rw [hL.out]; decide)
    rw [hL.out] at this
    simpa using this
  generalize (w.alloc (.cells #[.bool false, .slice none 0 0] 24)).alloc (.cells (arr t) 50) = W at *
  refine (fit_any W false _ 2 2 t hown.lim (by decide) (by decide)).mono ?_
  have hzz : sgn false (Lm.val t) = z := by rw [hV.out]; unfold sgn; simp; omega
  rw [hzz]
  clear hzz
  rintro e w1 ⟨_, rfl, ⟨s1, A1, n1, c1, rfl, hs1, ho1⟩, hb⟩
  have r := hxr.below' hb
  have x0 := r.c0
  have x1 := r.c1
  have f0 := r.f0
  have f1 := r.f1
  go_wp2
  obtain ⟨hB, hNV, hbl⟩ := close_num (base' := w.heap.size) r (Nat.le_refl _) (hb0.trans (hb.mono hb0.size)) hs1 ho1 hb0.size
  generalize (w1.setCell ⟨w.heap.size, 0, none⟩ (.bool s1)).setCell ⟨w.heap.size, 1, none⟩ (.slice A1 n1 c1) = W2 at *
  have hy0 := hB.c0
  have hy1 := hB.c1
  exact bodyPost_ret (v := .agg #[.bool s1, .slice A1 n1 c1]) (by simp [results, Try.results35, go_sem, hy0, hy1]) rfl ⟨_, rfl, hNV, hbl⟩

theorem refOf_any (w : World) (z : Int) (h1 : -9223372036854775808 ≤ z) (h2 : z ≤ 9223372036854775807) : Calls Try.prog 35 #[.int .i64 z] w (OnePost w z) := by
  rcases Int.lt_or_le z 0 with h | h
  · exact refOf_neg w z h1 h
  · exact refOf_pos w z h h2

theorem fit_row (w : World) (base : Nat) (g : Bool) (A : Option Addr) (n c : Nat) (t : List Nat) (v : Nat) (h : Own w base A n c t) (hn : n ≤ 1000) (hv : Lm.val t = v) :
    Calls Try.prog 54 #[.bool g, .slice A n c] w (OnePost w (sgn g v)) := by
  rw [← hv]
  exact fit_any w g A n c t h.lim hn h.cap.2

end Go.Proofs.Ytbpihjcghmmacaa
