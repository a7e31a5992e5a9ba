/-
  THE REFERENCE's Num of a term (chapter 4).
-/
import Derived.Test.YtompimbeaeinbaaGreatTmZB
namespace Go.Proofs.YtompimbeaeinbaaGreat
open Go.RowKit

/-- A call leaves this integer, and true. -/
def NmP (w : World) (z : Int) (e : Ending) (w' : World) : Prop :=
  ∃ s A n c, e = .returned (.tuple #[.agg #[.bool s, .slice A n c], .bool true]) ∧ Nm w' s A n c z ∧ Below w.heap.size w w'
/-- A call leaves no integer. -/
def NoP (w : World) (e : Ending) (w' : World) : Prop := e = .returned (.tuple #[.agg #[.bool false, .slice none 0 0], .bool false]) ∧ Below w.heap.size w w'
set_option maxRecDepth 100000 in
theorem Nm.setO {w : World} {base : Nat} {s : Bool} {A : Option Addr} {n c : Nat} {z : Int} (hs : Hid (s = decide (z < 0))) (ho : Own w base A n c (Lm.digits z.natAbs)) : Nm w s A n c z := Nm.of_own hs ho

set_option maxRecDepth 100000 in
set_option maxHeartbeats 4000000 in
theorem refNum_no (w : World) (r : TR) (t : Tm) (h : TV w r t) (ho : t.Ok) (hn : t.mayB = false ∨ (t.kind ≠ 1 ∧ t.kind ≠ 2)) : Calls Tryz.prog 16 #[.agg #[.int .i64 r.k, .int .i64 r.n, .bool r.g, .slice r.A r.ln r.lc, .int .u64 r.u, .string r.s, .slice r.B r.m r.d]] w (NoP w) := by
  have I := (BxI.new h).below ((Below.refl _ _).alloc (Nat.le_refl _) (.cells #[.bool false, .slice none 0 0] 24))
  have hy := Box.new (w.alloc (.cells #[.int .i64 r.k, .int .i64 r.n, .bool r.g, .slice r.A r.ln r.lc, .int .u64 r.u, .string r.s, .slice r.B r.m r.d] 28)) (.bool false) (.slice none 0 0)
  rw [World.size_alloc] at hy
  rw [h.kind] at hn
  go_enter Tryz.func16, Tryz.ntmps16
  go_wp2_with fail
  generalize (w.alloc (.cells #[.int .i64 r.k, .int .i64 r.n, .bool r.g, .slice r.A r.ln r.lc, .int .u64 r.u, .string r.s, .slice r.B r.m r.d] 28)).alloc (.cells #[.bool false, .slice none 0 0] 24) = W at *
  refine (refMayT_any W r t I.tv ho).mono ?_
  rintro e w1 ⟨rfl, hb1⟩
  have I1 := I.below hb1
  have hy1 := hy.below' hb1
  have y0 := I1.bx.at.c0
  have z0 := hy1.c0
  have z1 := hy1.c1
  have f0 := hy1.f0
  have f1 := hy1.f1
  clear I hy
  have fin : ∀ W5 : World, Box W5 (w.heap.size + 1) (.bool false) (.slice none 0 0) → Below w.heap.size w W5 → True := fun _ _ _ => trivial
  clear fin
  cases hm : t.mayB with
  | false =>
    clear hn
    go_wp2
    have hB := hy1.put2 (x' := .bool false) (y' := .slice none 0 0)
    have hbl := (I1.be.setCell (p := ⟨w.heap.size + 1, 0, none⟩) (by simp only; omega) (.bool false)).setCell (p := ⟨w.heap.size + 1, 1, none⟩) (by simp only; omega) (.slice none 0 0)
    clear z0 z1 f0 f1
    generalize (w1.setCell ⟨w.heap.size + 1, 0, none⟩ (.bool false)).setCell ⟨w.heap.size + 1, 1, none⟩ (.slice none 0 0) = W5 at *
    have z0 := hB.c0
    have z1 := hB.c1
    exact bodyPost_ret (v := .tuple #[.agg #[.bool false, .slice none 0 0], .bool false]) (by simp [results, Tryz.results16, go_sem, z0, z1]) rfl ⟨rfl, hbl⟩
  | true =>
    have hk := hn.resolve_left (by rw [hm]; decide)
    have e1 : (r.k != 1) = true := by rw [bne_iff_ne]; exact hk.1
    have e2 : (r.k != 2) = true := by rw [bne_iff_ne]; exact hk.2
    clear hn hk
    go_wp2
    have hB := hy1.put2 (x' := .bool false) (y' := .slice none 0 0)
    have hbl := (I1.be.setCell (p := ⟨w.heap.size + 1, 0, none⟩) (by simp only; omega) (.bool false)).setCell (p := ⟨w.heap.size + 1, 1, none⟩) (by simp only; omega) (.slice none 0 0)
    clear z0 z1 f0 f1
    generalize (w1.setCell ⟨w.heap.size + 1, 0, none⟩ (.bool false)).setCell ⟨w.heap.size + 1, 1, none⟩ (.slice none 0 0) = W5 at *
    have z0 := hB.c0
    have z1 := hB.c1
    exact bodyPost_ret (v := .tuple #[.agg #[.bool false, .slice none 0 0], .bool false]) (by simp [results, Tryz.results16, go_sem, z0, z1]) rfl ⟨rfl, hbl⟩

set_option maxRecDepth 100000 in
set_option maxHeartbeats 4000000 in
theorem refNum_int (w : World) (r : TR) (t : Tm) (h : TV w r t) (ho : t.Ok) (hm : t.mayB = true) (hk : t.kind = 1) : Calls Tryz.prog 16 #[.agg #[.int .i64 r.k, .int .i64 r.n, .bool r.g, .slice r.A r.ln r.lc, .int .u64 r.u, .string r.s, .slice r.B r.m r.d]] w (NmP w t.num) := by
  have I := (BxI.new h).below ((Below.refl _ _).alloc (Nat.le_refl _) (.cells #[.bool false, .slice none 0 0] 24))
  have hy := Box.new (w.alloc (.cells #[.int .i64 r.k, .int .i64 r.n, .bool r.g, .slice r.A r.ln r.lc, .int .u64 r.u, .string r.s, .slice r.B r.m r.d] 28)) (.bool false) (.slice none 0 0)
  rw [World.size_alloc] at hy
  have hW : ((w.alloc (.cells #[.int .i64 r.k, .int .i64 r.n, .bool r.g, .slice r.A r.ln r.lc, .int .u64 r.u, .string r.s, .slice r.B r.m r.d] 28)).alloc (.cells #[.bool false, .slice none 0 0] 24)).heap.size = w.heap.size + 2 := by simp
  rw [h.kind] at hk
  rw [h.num]
  have e1 : (r.k != 1) = false := by rw [hk]; rfl
  have e1' : (r.k == 1) = true := by rw [hk]; rfl
  have hn0 := h.flat.n0
  have hn1 := h.flat.n1
  clear hk
  go_enter Tryz.func16, Tryz.ntmps16
  go_wp2_with fail
  generalize (w.alloc (.cells #[.int .i64 r.k, .int .i64 r.n, .bool r.g, .slice r.A r.ln r.lc, .int .u64 r.u, .string r.s, .slice r.B r.m r.d] 28)).alloc (.cells #[.bool false, .slice none 0 0] 24) = W at *
  refine (refMayT_any W r t I.tv ho).mono ?_
  rw [hm]
  rintro e w1 ⟨rfl, hb1⟩
  have I1 := I.below hb1
  have hy1 := hy.below' hb1
  have y0 := I1.bx.at.c0
  have y1 := I1.bx.at.c1
  have hsz1 : w.heap.size + 2 ≤ w1.heap.size := by rw [← hW]; exact hb1.size
  clear I hy
  go_wp2_with fail
  refine (refOf_any w1 r.n hn0 hn1).mono ?_
  rintro e w2 ⟨V, rfl, ⟨s, A, n, c, rfl, hss, hO⟩, hb2⟩
  have I2 := I1.below hb2
  have hy2 := hy1.below' hb2
  have f0 := hy2.f0
  have f1 := hy2.f1
  have z0 := hy2.c0
  have z1 := hy2.c1
  clear y0 y1 I1 hy1
  go_wp2
  have hB := hy2.put2 (x' := .bool s) (y' := .slice A n c)
  have hbl := (I2.be.setCell (p := ⟨w.heap.size + 1, 0, none⟩) (by simp only; omega) (.bool s)).setCell (p := ⟨w.heap.size + 1, 1, none⟩) (by simp only; omega) (.slice A n c)
  have hO5 := (hO.setO (p := ⟨w.heap.size + 1, 0, none⟩) (by simp only; omega) (.bool s)).setO (p := ⟨w.heap.size + 1, 1, none⟩) (by simp only; omega) (.slice A n c)
  clear z0 z1 f0 f1
  generalize (w2.setCell ⟨w.heap.size + 1, 0, none⟩ (.bool s)).setCell ⟨w.heap.size + 1, 1, none⟩ (.slice A n c) = W5 at *
  have z0 := hB.c0
  have z1 := hB.c1
  exact bodyPost_ret (v := .tuple #[.agg #[.bool s, .slice A n c], .bool true]) (by simp [results, Tryz.results16, go_sem, z0, z1]) rfl ⟨s, A, n, c, rfl, Nm.of_own hss hO5, hbl⟩

set_option maxRecDepth 100000 in
set_option maxHeartbeats 4000000 in
theorem refNum_big (w : World) (r : TR) (t : Tm) (h : TV w r t) (ho : t.Ok) (hm : t.mayB = true) (hk : t.kind = 2) : Calls Tryz.prog 16 #[.agg #[.int .i64 r.k, .int .i64 r.n, .bool r.g, .slice r.A r.ln r.lc, .int .u64 r.u, .string r.s, .slice r.B r.m r.d]] w (NumP w t.neg t.mag) := by
  have hln : r.ln ≤ 1000 := by have := Ok.limbs h ho; omega
  have I := (BxI.new h).below ((Below.refl _ _).alloc (Nat.le_refl _) (.cells #[.bool false, .slice none 0 0] 24))
  have hy := Box.new (w.alloc (.cells #[.int .i64 r.k, .int .i64 r.n, .bool r.g, .slice r.A r.ln r.lc, .int .u64 r.u, .string r.s, .slice r.B r.m r.d] 28)) (.bool false) (.slice none 0 0)
  rw [World.size_alloc] at hy
  have hW : ((w.alloc (.cells #[.int .i64 r.k, .int .i64 r.n, .bool r.g, .slice r.A r.ln r.lc, .int .u64 r.u, .string r.s, .slice r.B r.m r.d] 28)).alloc (.cells #[.bool false, .slice none 0 0] 24)).heap.size = w.heap.size + 2 := by simp
  rw [h.kind] at hk
  have HG := Lib.hid h.neg
  have HL := Lib.hid h.magLen
  have e1 : (r.k != 1) = true := by rw [hk]; rfl
  have e1' : (r.k == 1) = false := by rw [hk]; rfl
  have e2 : (r.k != 2) = false := by rw [hk]; rfl
  clear hk
  go_enter Tryz.func16, Tryz.ntmps16
  go_wp2_with fail
  generalize (w.alloc (.cells #[.int .i64 r.k, .int .i64 r.n, .bool r.g, .slice r.A r.ln r.lc, .int .u64 r.u, .string r.s, .slice r.B r.m r.d] 28)).alloc (.cells #[.bool false, .slice none 0 0] 24) = W at *
  refine (refMayT_any W r t I.tv ho).mono ?_
  rw [hm]
  rintro e w1 ⟨rfl, hb1⟩
  have I1 := I.below hb1
  have hy1 := hy.below' hb1
  have hsz1 : w.heap.size + 2 ≤ w1.heap.size := by rw [← hW]; exact hb1.size
  have hb3 := (Below.refl w1.heap.size w1).drew
  have I3 := I1.below hb3
  have hy3 := hy1.below' hb3
  have hraw : Raw w1.drew r.A r.ln r.lc t.mag := ⟨I3.tv.flat.lim, I3.tv.flat.cap⟩
  obtain ⟨A', c', w3, hrun, hO, hB⟩ := append_lim w1.drew w1.drew.heap.size none 0 0 [] (Own.nil _ _) r.A r.ln r.lc t.mag hraw.1 (by omega) (Nat.le_refl _) 22
  rw [Nat.zero_add, List.nil_append] at hO
  rw [Nat.zero_add] at hrun
  have HR := Lib.hid hrun
  clear hrun
  have hszd : w.heap.size + 2 ≤ w1.drew.heap.size := hsz1
  have I4 := I3.below hB
  have hy4 := hy3.below' hB
  have y0 := I1.bx.at.c0
  have x0 := I3.bx.at.c0
  have x2 := I3.bx.at.c2
  have x3 := I3.bx.at.c3
  have v2 := I4.bx.at.c2
  have v3 := I4.bx.at.c3
  have f0 := hy4.f0
  have f1 := hy4.f1
  have z0 := hy4.c0
  have z1 := hy4.c1
  clear I I1 hy hy1
  go_wp2_with fail
  go_region_law (first | (refine step_app rfl _ _ 22 rfl _ _ _ rfl rfl HR.out ?_))
  all_goals
    go_wp2
    have hBx := hy4.put2 (x' := .bool r.g) (y' := .slice A' r.ln c')
    have hbl := (I4.be.setCell (p := ⟨w.heap.size + 1, 0, none⟩) (by simp only; omega) (.bool r.g)).setCell (p := ⟨w.heap.size + 1, 1, none⟩) (by simp only; omega) (.slice A' r.ln c')
    have hO5 := (hO.setO (p := ⟨w.heap.size + 1, 0, none⟩) (by simp only; omega) (.bool r.g)).setO (p := ⟨w.heap.size + 1, 1, none⟩) (by simp only; omega) (.slice A' r.ln c')
    clear z0 z1 f0 f1 x0 x2 x3 v2 v3 y0
    generalize (w3.setCell ⟨w.heap.size + 1, 0, none⟩ (.bool r.g)).setCell ⟨w.heap.size + 1, 1, none⟩ (.slice A' r.ln c') = W5 at *
    have z0 := hBx.c0
    have z1 := hBx.c1
    exact bodyPost_ret (v := .tuple #[.agg #[.bool r.g, .slice A' r.ln c'], .bool true]) (by simp [results, Tryz.results16, go_sem, z0, z1]) rfl ⟨A', c', by rw [HG.out, HL.out], by rw [HL.out]; exact hO5.mono (by omega), hbl⟩
end Go.Proofs.YtompimbeaeinbaaGreat
