/-
  PACKAGE term: copied, OfNum, Int, Atom.
-/
import Derived.Test.YtbpihjcghmmacaaTmP
namespace Go.Proofs.Ytbpihjcghmmacaa
open Go.RowKit

/-- What 'copied' leaves. -/
def CpN (w : World) (g : Bool) (n : Nat) (l : List Nat) (e : Ending) (w' : World) : Prop :=
  ∃ A c, e = .returned (.agg #[.bool g, .slice A n c]) ∧ Own w' w.heap.size A n c l ∧ Below w.heap.size w w'

theorem Own.setO {w : World} {base n c : Nat} {A : Option Addr} {l : List Nat} (h : Own w base A n c l) {p : Addr} (hp : p.block < base) (v : Value) : Own (w.setCell p v) base A n c l := by
  refine ⟨h.1, h.2.1, h.2.2.1, ?_⟩
  rcases h.2.2.2 with h0 | ⟨g, cap, cur, hv, hbg, hg, rest⟩
  · exact .inl h0
  · exact .inr ⟨g, cap, cur, hv, hbg, (Below.heap_setCell w p v g (by omega)).trans hg, rest⟩

set_option maxHeartbeats 2000000 in
theorem copied_any (w : World) (g : Bool) (A : Option Addr) (n c : Nat) (l : List Nat) (h : Raw w A n c l) (hn : n ≤ 1000) :
    Calls Try.prog 34 #[.agg #[.bool g, .slice A n c]] w (CpN w g n l) := by
  have b0 := ((Below.refl w.heap.size w).alloc (Nat.le_refl _) (.cells #[.bool g, .slice A n c] 24)).alloc (by simp) (.cells #[.bool false, .slice none 0 0] 24)
  have hx := (Box.new w (.bool g) (.slice A n c)).below' ((Below.refl _ _).alloc (Nat.le_refl _) (.cells #[.bool false, .slice none 0 0] 24))
  have hy := Box.new (w.alloc (.cells #[.bool g, .slice A n c] 24)) (.bool false) (.slice none 0 0)
  rw [World.size_alloc] at hy
  have hW : ((w.alloc (.cells #[.bool g, .slice A n c] 24)).alloc (.cells #[.bool false, .slice none 0 0] 24)).heap.size = w.heap.size + 2 := by simp
  have h0 := h.below b0
  go_enter Try.func34, Try.ntmps34
  go_upto_region 1 with fail
  generalize (w.alloc (.cells #[.bool g, .slice A n c] 24)).alloc (.cells #[.bool false, .slice none 0 0] 24) = W at *
  have hxd := hx.below' (Below.refl W.heap.size W).drew
  have hyd := hy.below' (Below.refl W.heap.size W).drew
  have h0d := h0.below (Below.refl W.heap.size W).drew
  have b0d := b0.drew
  have hWd : W.drew.heap.size = w.heap.size + 2 := hW
  have x0 := hxd.c0
  have x1 := hxd.c1
  go_region_with (first
    | (go_at_call 53; refine (clone_any _ A n c l (by exact h0d) hn).mono ?_; rintro e v ⟨A', c', rfl, hO, hv⟩; have hx' := hxd.below' hv; have hy' := hyd.below' hv; have b1 := b0d.trans (hv.mono b0d.size); clear x0 x1; have x0 := hx'.c0; have x1 := hx'.c1; have y0 := hy'.c0; have y1 := hy'.c1; have f0 := hy'.f0; have f1 := hy'.f1))
  all_goals
    go_wp2
    obtain ⟨hB5, hbl⟩ : Box ((v.setCell ⟨w.heap.size + 1, 0, none⟩ (.bool g)).setCell ⟨w.heap.size + 1, 1, none⟩ (.slice A' n c')) (w.heap.size + 1) (.bool g) (.slice A' n c') ∧ Below w.heap.size w ((v.setCell ⟨w.heap.size + 1, 0, none⟩ (.bool g)).setCell ⟨w.heap.size + 1, 1, none⟩ (.slice A' n c')) :=
      ⟨by unfold Box at hy' ⊢; simp [World.setCell, Array.getElem?_modify, hy'], (b1.setCell (p := ⟨w.heap.size + 1, 0, none⟩) (by simp only; omega) _).setCell (p := ⟨w.heap.size + 1, 1, none⟩) (by simp only; omega) _⟩
    have hO5 : Own ((v.setCell ⟨w.heap.size + 1, 0, none⟩ (.bool g)).setCell ⟨w.heap.size + 1, 1, none⟩ (.slice A' n c')) w.heap.size A' n c' l :=
      ((hO.setO (p := ⟨w.heap.size + 1, 0, none⟩) (by simp only; omega) _).setO (p := ⟨w.heap.size + 1, 1, none⟩) (by simp only; omega) _).mono (by omega)
    clear x0 x1 y0 y1 f0 f1
    generalize (v.setCell ⟨w.heap.size + 1, 0, none⟩ (.bool g)).setCell ⟨w.heap.size + 1, 1, none⟩ (.slice A' n c') = W5 at *
    have z0 := hB5.c0
    have z1 := hB5.c1
    exact bodyPost_ret (v := .agg #[.bool g, .slice A' n c']) (by simp [results, Try.results34, go_sem, z0, z1]) rfl ⟨A', c', rfl, hO5, hbl⟩

/-- The term of an integer. -/
def ofT (g : Bool) (l : List Nat) : Tm := if smOk g l then .mk 1 (smZ g l) false [] 0 ⟨#[]⟩ [] else if mayB g l then .mk 2 0 g l 0 ⟨#[]⟩ [] else .mk 0 0 false [] 0 ⟨#[]⟩ []
/-- What OfNum leaves. -/
def OfP (w : World) (g : Bool) (l : List Nat) (e : Ending) (w' : World) : Prop :=
  ∃ R : TR, e = .returned (.tuple #[.agg #[.int .i64 R.k, .int .i64 R.n, .bool R.g, .slice R.A R.ln R.lc, .int .u64 R.u, .string R.s, .slice R.B R.m R.d], .bool (mayB g l)]) ∧ TV w' R (ofT g l) ∧ Own w' w.heap.size R.A R.ln R.lc (ofT g l).mag ∧ R.m = 0 ∧ Below w.heap.size w w'
theorem smZ_bd {g : Bool} {l : List Nat} (h : smOk g l = true) : -9223372036854775808 ≤ smZ g l ∧ smZ g l ≤ 9223372036854775807 := by
  unfold smZ
  unfold smOk at h
  rw [if_pos h]
  simp only [smallB, Bool.and_eq_true, decide_eq_true_eq] at h
  omega
theorem TV.int {w : World} {z : Int} (h0 : -9223372036854775808 ≤ z) (h1 : z ≤ 9223372036854775807) : TV w ⟨1, z, false, none, 0, 0, 0, ⟨#[]⟩, none, 0, 0⟩ (.mk 1 z false [] 0 ⟨#[]⟩ []) :=
  TV.mk' (by omega) (by omega) h0 h1 (by omega) (by omega) (Lim.nil _ _ _) (Nat.zero_le _) (Nat.zero_le _) (TVs.nil _ _ _ (Nat.zero_le _))
theorem TV.zero {w : World} : TV w zeroR (.mk 0 0 false [] 0 ⟨#[]⟩ []) :=
  TV.mk' (by omega) (by omega) (by omega) (by omega) (by omega) (by omega) (Lim.nil _ _ _) (Nat.zero_le _) (Nat.zero_le _) (TVs.nil _ _ _ (Nat.zero_le _))
theorem TV.big {w : World} {g : Bool} {A : Option Addr} {n c : Nat} {l : List Nat} (h : Lim w A n c l) (hc : c ≤ maxLen) : TV w ⟨2, 0, g, A, n, c, 0, ⟨#[]⟩, none, 0, 0⟩ (.mk 2 0 g l 0 ⟨#[]⟩ []) :=
  TV.mk' (by omega) (by omega) (by omega) (by omega) (by omega) (by omega) h hc (Nat.zero_le _) (TVs.nil _ _ _ (Nat.zero_le _))

set_option maxHeartbeats 2000000 in
theorem ofNum_any (w : World) (g : Bool) (A : Option Addr) (n c : Nat) (l : List Nat) (h : Raw w A n c l) (hn : n ≤ 1000) :
    Calls Try.prog 18 #[.agg #[.bool g, .slice A n c]] w (OfP w g l) := by
  have b0 := ((Below.refl w.heap.size w).alloc (Nat.le_refl _) (.cells #[.bool g, .slice A n c] 24)).alloc (by simp) (.cells #[.int .i64 zeroR.k, .int .i64 zeroR.n, .bool zeroR.g, .slice zeroR.A zeroR.ln zeroR.lc, .int .u64 zeroR.u, .string zeroR.s, .slice zeroR.B zeroR.m zeroR.d] 28)
  have hx := (Box.new w (.bool g) (.slice A n c)).below' ((Below.refl _ _).alloc (Nat.le_refl _) (.cells #[.int .i64 zeroR.k, .int .i64 zeroR.n, .bool zeroR.g, .slice zeroR.A zeroR.ln zeroR.lc, .int .u64 zeroR.u, .string zeroR.s, .slice zeroR.B zeroR.m zeroR.d] 28))
  have hy := Box7.new (w.alloc (.cells #[.bool g, .slice A n c] 24)) zeroR
  rw [World.size_alloc] at hy
  have hW : ((w.alloc (.cells #[.bool g, .slice A n c] 24)).alloc (.cells #[.int .i64 zeroR.k, .int .i64 zeroR.n, .bool zeroR.g, .slice zeroR.A zeroR.ln zeroR.lc, .int .u64 zeroR.u, .string zeroR.s, .slice zeroR.B zeroR.m zeroR.d] 28)).heap.size = w.heap.size + 2 := by simp
  have h0 := h.below b0
  go_enter Try.func18, Try.ntmps18
  go_wp2_with fail
  generalize (w.alloc (.cells #[.bool g, .slice A n c] 24)).alloc (.cells #[.int .i64 zeroR.k, .int .i64 zeroR.n, .bool zeroR.g, .slice zeroR.A zeroR.ln zeroR.lc, .int .u64 zeroR.u, .string zeroR.s, .slice zeroR.B zeroR.m zeroR.d] 28) = W at *
  refine (small_raw W g A n c l h0).mono ?_
  obtain ⟨z, hz⟩ : ∃ z, z = smZ g l := ⟨_, rfl⟩
  rw [← hz]
  have HZ := Lib.hid hz
  clear hz
  rintro e w1 ⟨rfl, hb1⟩
  have hx1 := hx.below' hb1
  have hy1 := hy.below hb1
  have b1 := b0.trans (hb1.mono b0.size)
  have h1 := h0.below hb1
  have hsz1 : w.heap.size + 2 ≤ w1.heap.size := by rw [← hW]; exact hb1.size
  clear hx hy b0 h0
  cases hs : smOk g l with
  | true =>
    have hT := Lib.hid (show ofT g l = .mk 1 z false [] 0 ⟨#[]⟩ [] by unfold ofT; rw [if_pos hs, HZ.out])
    have hM := Lib.hid (show mayB g l = true by unfold smOk at hs; simp only [Bool.and_eq_true] at hs; exact hs.1)
    have hzb := smZ_bd hs
    rw [← HZ.out] at hzb
    have f0 := hy1.frozen 0; have f1 := hy1.frozen 1; have f2 := hy1.frozen 2; have f3 := hy1.frozen 3; have f4 := hy1.frozen 4; have f5 := hy1.frozen 5; have f6 := hy1.frozen 6; have q0 := hy1.at.c0; have q1 := hy1.at.c1; have q2 := hy1.at.c2; have q3 := hy1.at.c3; have q4 := hy1.at.c4; have q5 := hy1.at.c5; have q6 := hy1.at.c6
    go_wp2
    have C := (hy1.put ⟨1, z, false, none, 0, 0, 0, ⟨#[]⟩, none, 0, 0⟩).at
    have hB5 := b1.put7 (g := w.heap.size + 1) (by omega) ⟨1, z, false, none, 0, 0, 0, ⟨#[]⟩, none, 0, 0⟩
    have y0 := C.c0; have y1 := C.c1; have y2 := C.c2; have y3 := C.c3; have y4 := C.c4; have y5 := C.c5; have y6 := C.c6
    clear C f0 f1 f2 f3 f4 f5 f6 q0 q1 q2 q3 q4 q5 q6
    change bodyPost _ _ _ _ _ (put7 w1 (w.heap.size + 1) ⟨1, z, false, none, 0, 0, 0, ⟨#[]⟩, none, 0, 0⟩)
    generalize put7 w1 (w.heap.size + 1) ⟨1, z, false, none, 0, 0, 0, ⟨#[]⟩, none, 0, 0⟩ = W5 at *
    exact bodyPost_ret (v := .tuple #[.agg #[.int .i64 1, .int .i64 z, .bool false, .slice none 0 0, .int .u64 0, .string ⟨#[]⟩, .slice none 0 0], .bool true]) (by simp [results, Try.results18, go_sem, y0, y1, y2, y3, y4, y5, y6]) rfl
      ⟨⟨1, z, false, none, 0, 0, 0, ⟨#[]⟩, none, 0, 0⟩, by rw [hM.out], by rw [hT.out]; exact TV.int hzb.1 hzb.2, by rw [hT.out]; exact Own.nil _ _, rfl, hB5⟩
  | false =>
    have x0 := hx1.c0
    have x1 := hx1.c1
    go_wp2_with fail
    refine (may_b w1 g A n c l h1).mono ?_
    rintro e w2 ⟨rfl, hb2⟩
    have hx2 := hx1.below' hb2
    have hy2 := hy1.below hb2
    have b2 := b1.trans (hb2.mono b1.size)
    have h2 := h1.below hb2
    have hsz2 : w.heap.size + 2 ≤ w2.heap.size := Nat.le_trans hsz1 hb2.size
    clear hx1 hy1 b1 h1 x0 x1
    cases hm : mayB g l with
    | false =>
      have hT := Lib.hid (show ofT g l = .mk 0 0 false [] 0 ⟨#[]⟩ [] by unfold ofT; rw [if_neg (by rw [hs]; decide), if_neg (by rw [hm]; decide)])
      have hM := Lib.hid hm
      have f0 := hy2.frozen 0; have f1 := hy2.frozen 1; have f2 := hy2.frozen 2; have f3 := hy2.frozen 3; have f4 := hy2.frozen 4; have f5 := hy2.frozen 5; have f6 := hy2.frozen 6; have q0 := hy2.at.c0; have q1 := hy2.at.c1; have q2 := hy2.at.c2; have q3 := hy2.at.c3; have q4 := hy2.at.c4; have q5 := hy2.at.c5; have q6 := hy2.at.c6
      go_wp2
      have C := (hy2.put zeroR).at
      have hB5 := b2.put7 (g := w.heap.size + 1) (by omega) zeroR
      have y0 := C.c0; have y1 := C.c1; have y2 := C.c2; have y3 := C.c3; have y4 := C.c4; have y5 := C.c5; have y6 := C.c6
      clear C f0 f1 f2 f3 f4 f5 f6 q0 q1 q2 q3 q4 q5 q6
      change bodyPost _ _ _ _ _ (put7 w2 (w.heap.size + 1) zeroR)
      generalize put7 w2 (w.heap.size + 1) zeroR = W5 at *
      exact bodyPost_ret (v := .tuple #[.agg #[.int .i64 0, .int .i64 0, .bool false, .slice none 0 0, .int .u64 0, .string ⟨#[]⟩, .slice none 0 0], .bool false]) (by simp [results, Try.results18, go_sem, y0, y1, y2, y3, y4, y5, y6]) rfl
        ⟨zeroR, by rw [hM.out], by rw [hT.out]; exact TV.zero, by rw [hT.out]; exact Own.nil _ _, rfl, hB5⟩
    | true =>
      have hT := Lib.hid (show ofT g l = .mk 2 0 g l 0 ⟨#[]⟩ [] by unfold ofT; rw [if_neg (by rw [hs]; decide), if_pos hm])
      have hM := Lib.hid hm
      have x0 := hx2.c0
      have x1 := hx2.c1
      go_wp2_with fail
      refine (copied_any w2 g A n c l h2 hn).mono ?_
      rintro e w3 ⟨A', c', rfl, hO, hb3⟩
      have hy3 := hy2.below hb3
      have b3 := b2.trans (hb3.mono b2.size)
      clear hx2 hy2 b2 h2 x0 x1
      have f0 := hy3.frozen 0; have f1 := hy3.frozen 1; have f2 := hy3.frozen 2; have f3 := hy3.frozen 3; have f4 := hy3.frozen 4; have f5 := hy3.frozen 5; have f6 := hy3.frozen 6; have q0 := hy3.at.c0; have q1 := hy3.at.c1; have q2 := hy3.at.c2; have q3 := hy3.at.c3; have q4 := hy3.at.c4; have q5 := hy3.at.c5; have q6 := hy3.at.c6
      go_wp2
      have C := (hy3.put ⟨2, 0, g, A', n, c', 0, ⟨#[]⟩, none, 0, 0⟩).at
      have hB5 := b3.put7 (g := w.heap.size + 1) (by omega) ⟨2, 0, g, A', n, c', 0, ⟨#[]⟩, none, 0, 0⟩
      have hO5 : Own (put7 w3 (w.heap.size + 1) ⟨2, 0, g, A', n, c', 0, ⟨#[]⟩, none, 0, 0⟩) w2.heap.size A' n c' l :=
        ((((((hO.setO (p := ⟨w.heap.size + 1, 0, none⟩) (by simp only; omega) _).setO (p := ⟨w.heap.size + 1, 1, none⟩) (by simp only; omega) _).setO (p := ⟨w.heap.size + 1, 2, none⟩) (by simp only; omega) _).setO (p := ⟨w.heap.size + 1, 3, none⟩) (by simp only; omega) _).setO (p := ⟨w.heap.size + 1, 4, none⟩) (by simp only; omega) _).setO (p := ⟨w.heap.size + 1, 5, none⟩) (by simp only; omega) _).setO (p := ⟨w.heap.size + 1, 6, none⟩) (by simp only; omega) _
      have y0 := C.c0; have y1 := C.c1; have y2 := C.c2; have y3 := C.c3; have y4 := C.c4; have y5 := C.c5; have y6 := C.c6
      clear C f0 f1 f2 f3 f4 f5 f6 q0 q1 q2 q3 q4 q5 q6
      change bodyPost _ _ _ _ _ (put7 w3 (w.heap.size + 1) ⟨2, 0, g, A', n, c', 0, ⟨#[]⟩, none, 0, 0⟩)
      generalize put7 w3 (w.heap.size + 1) ⟨2, 0, g, A', n, c', 0, ⟨#[]⟩, none, 0, 0⟩ = W5 at *
      exact bodyPost_ret (v := .tuple #[.agg #[.int .i64 2, .int .i64 0, .bool g, .slice A' n c', .int .u64 0, .string ⟨#[]⟩, .slice none 0 0], .bool true]) (by simp [results, Try.results18, go_sem, y0, y1, y2, y3, y4, y5, y6]) rfl
        ⟨⟨2, 0, g, A', n, c', 0, ⟨#[]⟩, none, 0, 0⟩, by rw [hM.out], by rw [hT.out]; exact TV.big hO5.lim hO5.cap.2, by rw [hT.out]; exact hO5.mono (by omega), rfl, hB5⟩
end Go.Proofs.Ytbpihjcghmmacaa
