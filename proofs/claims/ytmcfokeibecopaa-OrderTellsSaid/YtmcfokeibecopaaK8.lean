/-
  PACKAGE term: copied, OfNum, Int, Atom.
  PACKAGE term: Int, Atom.
  THE REFERENCE's OfNum, Int.
  PACKAGE fresh: left; a look-up in no map.
  PACKAGE fresh: terms that are copied apart (no map is kept).
  PACKAGE term: List.
  WHAT EVERY PROGRAM ANSWERS THAT IS ONE: awake of beehivelaw4.
  TWO TERMS AS THEY STAND: beehivelaw0.SameTerm, SameTerms, of terms that are the same.
  PACKAGE term: Num of a term of an integer; beehivelaw0.OverTerm of such a term.
-/
import Derived.Test.YtmcfokeibecopaaK7
import Derived.Deep.RegionLaw
namespace Go.Proofs.Ytmcfokeibecopaa
open Go.RowKit

/-- What 'copied' leaves. -/
def CpN (w : World) (g : Bool) (n : Nat) (l : List Nat) (e : Ending) (w' : World) : Prop :=
  ∃ A c, e = .returned (.agg #[.bool g, .slice A n c]) ∧ Own w' w.heap.size A n c l ∧ Below w.heap.size w w'

set_option maxRecDepth 100000 in
theorem Own.setO {w : World} {base n c : Nat} {A : Option Addr} {l : List Nat} (h : Own w base A n c l) {p : Addr} (hp : p.block < base) (v : Value) : Own (w.setCell p v) base A n c l := by
  refine ⟨h.1, h.2.1, h.2.2.1, ?_⟩
  rcases h.2.2.2 with h0 | ⟨g, cap, cur, hv, hbg, hg, rest⟩
  · exact .inl h0
  · exact .inr ⟨g, cap, cur, hv, hbg, (Below.heap_setCell w p v g (by omega)).trans hg, rest⟩

set_option maxRecDepth 100000 in
set_option maxHeartbeats 2000000 in
theorem copied_any (w : World) (g : Bool) (A : Option Addr) (n c : Nat) (l : List Nat) (h : Raw w A n c l) (hn : n ≤ 1000) :
    Calls Try.prog 45 #[.agg #[.bool g, .slice A n c]] w (CpN w g n l) := by
  have b0 := ((Below.refl w.heap.size w).alloc (Nat.le_refl _) (.cells #[.bool g, .slice A n c] 24)).alloc (by simp) (.cells #[.bool false, .slice none 0 0] 24)
  have hx := (Box.new w (.bool g) (.slice A n c)).below' ((Below.refl _ _).alloc (Nat.le_refl _) (.cells #[.bool false, .slice none 0 0] 24))
  have hy := Box.new (w.alloc (.cells #[.bool g, .slice A n c] 24)) (.bool false) (.slice none 0 0)
  rw [World.size_alloc] at hy
  have hW : ((w.alloc (.cells #[.bool g, .slice A n c] 24)).alloc (.cells #[.bool false, .slice none 0 0] 24)).heap.size = w.heap.size + 2 := by simp
  have h0 := h.below b0
  go_enter Try.func45, Try.ntmps45
  go_upto_region 1 with fail
  generalize (w.alloc (.cells #[.bool g, .slice A n c] 24)).alloc (.cells #[.bool false, .slice none 0 0] 24) = W at *
  have hxd := hx.below' (Below.refl W.heap.size W).drew
  have hyd := hy.below' (Below.refl W.heap.size W).drew
  have h0d := h0.below (Below.refl W.heap.size W).drew
  have b0d := b0.drew
  have hWd : W.drew.heap.size = w.heap.size + 2 := hW
  have x0 := hxd.c0
  have x1 := hxd.c1
  go_region_with (first
    | (go_at_call 68; refine (clone_any _ A n c l (by exact h0d) hn).mono ?_; rintro e v ⟨A', c', rfl, hO, hv⟩; have hx' := hxd.below' hv; have hy' := hyd.below' hv; have b1 := b0d.trans (hv.mono b0d.size); clear x0 x1; have x0 := hx'.c0; have x1 := hx'.c1; have y0 := hy'.c0; have y1 := hy'.c1; have f0 := hy'.f0; have f1 := hy'.f1))
  all_goals
    go_wp2
    obtain ⟨hB5, hbl⟩ : Box ((v.setCell ⟨w.heap.size + 1, 0, none⟩ (.bool g)).setCell ⟨w.heap.size + 1, 1, none⟩ (.slice A' n c')) (w.heap.size + 1) (.bool g) (.slice A' n c') ∧ Below w.heap.size w ((v.setCell ⟨w.heap.size + 1, 0, none⟩ (.bool g)).setCell ⟨w.heap.size + 1, 1, none⟩ (.slice A' n c')) :=
      ⟨by unfold Box at hy' ⊢; simp [World.setCell, Array.getElem?_modify, hy'], (b1.setCell (p := ⟨w.heap.size + 1, 0, none⟩) (by simp only; omega) _).setCell (p := ⟨w.heap.size + 1, 1, none⟩) (by simp only; omega) _⟩
    have hO5 : Own ((v.setCell ⟨w.heap.size + 1, 0, none⟩ (.bool g)).setCell ⟨w.heap.size + 1, 1, none⟩ (.slice A' n c')) w.heap.size A' n c' l :=
      ((hO.setO (p := ⟨w.heap.size + 1, 0, none⟩) (by simp only; omega) _).setO (p := ⟨w.heap.size + 1, 1, none⟩) (by simp only; omega) _).mono (by omega)
    clear x0 x1 y0 y1 f0 f1
    generalize (v.setCell ⟨w.heap.size + 1, 0, none⟩ (.bool g)).setCell ⟨w.heap.size + 1, 1, none⟩ (.slice A' n c') = W5 at *
    have z0 := hB5.c0
    have z1 := hB5.c1
    exact bodyPost_ret (v := .agg #[.bool g, .slice A' n c']) (by simp [results, Try.results45, go_sem, z0, z1]) rfl ⟨A', c', rfl, hO5, hbl⟩

/-- The term of an integer. -/
def ofT (g : Bool) (l : List Nat) : Tm := if smOk g l then .mk 1 (smZ g l) false [] 0 ⟨#[]⟩ [] else if mayB g l then .mk 2 0 g l 0 ⟨#[]⟩ [] else .mk 0 0 false [] 0 ⟨#[]⟩ []
/-- What OfNum leaves. -/
def OfP (w : World) (g : Bool) (l : List Nat) (e : Ending) (w' : World) : Prop :=
  ∃ R : TR, e = .returned (.tuple #[.agg #[.int .i64 R.k, .int .i64 R.n, .bool R.g, .slice R.A R.ln R.lc, .int .u64 R.u, .string R.s, .slice R.B R.m R.d], .bool (mayB g l)]) ∧ TV w' R (ofT g l) ∧ Own w' w.heap.size R.A R.ln R.lc (ofT g l).mag ∧ R.m = 0 ∧ Below w.heap.size w w'
set_option maxRecDepth 100000 in
theorem smZ_bd {g : Bool} {l : List Nat} (h : smOk g l = true) : -9223372036854775808 ≤ smZ g l ∧ smZ g l ≤ 9223372036854775807 := by
  unfold smZ
  unfold smOk at h
  rw [if_pos h]
  simp only [smallB, Bool.and_eq_true, decide_eq_true_eq] at h
  omega
set_option maxRecDepth 100000 in
theorem TV.int {w : World} {z : Int} (h0 : -9223372036854775808 ≤ z) (h1 : z ≤ 9223372036854775807) : TV w ⟨1, z, false, none, 0, 0, 0, ⟨#[]⟩, none, 0, 0⟩ (.mk 1 z false [] 0 ⟨#[]⟩ []) :=
  TV.mk' (by omega) (by omega) h0 h1 (by omega) (by omega) (Lim.nil _ _ _) (Nat.zero_le _) (Nat.zero_le _) (TVs.nil _ _ _ (Nat.zero_le _))
set_option maxRecDepth 100000 in
theorem TV.zero {w : World} : TV w zeroR (.mk 0 0 false [] 0 ⟨#[]⟩ []) :=
  TV.mk' (by omega) (by omega) (by omega) (by omega) (by omega) (by omega) (Lim.nil _ _ _) (Nat.zero_le _) (Nat.zero_le _) (TVs.nil _ _ _ (Nat.zero_le _))
set_option maxRecDepth 100000 in
theorem TV.big {w : World} {g : Bool} {A : Option Addr} {n c : Nat} {l : List Nat} (h : Lim w A n c l) (hc : c ≤ maxLen) : TV w ⟨2, 0, g, A, n, c, 0, ⟨#[]⟩, none, 0, 0⟩ (.mk 2 0 g l 0 ⟨#[]⟩ []) :=
  TV.mk' (by omega) (by omega) (by omega) (by omega) (by omega) (by omega) h hc (Nat.zero_le _) (TVs.nil _ _ _ (Nat.zero_le _))

set_option maxRecDepth 100000 in
set_option maxHeartbeats 2000000 in
theorem ofNum_any (w : World) (g : Bool) (A : Option Addr) (n c : Nat) (l : List Nat) (h : Raw w A n c l) (hn : n ≤ 1000) :
    Calls Try.prog 25 #[.agg #[.bool g, .slice A n c]] w (OfP w g l) := by
  have b0 := ((Below.refl w.heap.size w).alloc (Nat.le_refl _) (.cells #[.bool g, .slice A n c] 24)).alloc (by simp) (.cells #[.int .i64 zeroR.k, .int .i64 zeroR.n, .bool zeroR.g, .slice zeroR.A zeroR.ln zeroR.lc, .int .u64 zeroR.u, .string zeroR.s, .slice zeroR.B zeroR.m zeroR.d] 28)
  have hx := (Box.new w (.bool g) (.slice A n c)).below' ((Below.refl _ _).alloc (Nat.le_refl _) (.cells #[.int .i64 zeroR.k, .int .i64 zeroR.n, .bool zeroR.g, .slice zeroR.A zeroR.ln zeroR.lc, .int .u64 zeroR.u, .string zeroR.s, .slice zeroR.B zeroR.m zeroR.d] 28))
  have hy := Box7.new (w.alloc (.cells #[.bool g, .slice A n c] 24)) zeroR
  rw [World.size_alloc] at hy
  have hW : ((w.alloc (.cells #[.bool g, .slice A n c] 24)).alloc (.cells #[.int .i64 zeroR.k, .int .i64 zeroR.n, .bool zeroR.g, .slice zeroR.A zeroR.ln zeroR.lc, .int .u64 zeroR.u, .string zeroR.s, .slice zeroR.B zeroR.m zeroR.d] 28)).heap.size = w.heap.size + 2 := by simp
  have h0 := h.below b0
  go_enter Try.func25, Try.ntmps25
  go_wp2_with fail
  generalize (w.alloc (.cells #[.bool g, .slice A n c] 24)).alloc (.cells #[.int .i64 zeroR.k, .int .i64 zeroR.n, .bool zeroR.g, .slice zeroR.A zeroR.ln zeroR.lc, .int .u64 zeroR.u, .string zeroR.s, .slice zeroR.B zeroR.m zeroR.d] 28) = W at *
  refine (small_raw W g A n c l h0).mono ?_
  obtain ⟨z, hz⟩ : ∃ z, z = smZ g l := ⟨_, rfl⟩
  rw [← hz]
  have HZ := Lib.hid hz
  clear hz
  rintro e w1 ⟨rfl, hb1⟩
  have hx1 := hx.below' hb1
  have hy1 := hy.below hb1
  have b1 := b0.trans (hb1.mono b0.size)
  have h1 := h0.below hb1
  have hsz1 : w.heap.size + 2 ≤ w1.heap.size := by rw [← hW]; exact hb1.size
  clear hx hy b0 h0
  cases hs : smOk g l with
  | true =>
    have hT := Lib.hid (show ofT g l = .mk 1 z false [] 0 ⟨#[]⟩ [] by unfold ofT; rw [if_pos hs, HZ.out])
    have hM := Lib.hid (show mayB g l = true by unfold smOk at hs; simp only [Bool.and_eq_true] at hs; exact hs.1)
    have hzb := smZ_bd hs
    rw [← HZ.out] at hzb
    have f0 := hy1.frozen 0; have f1 := hy1.frozen 1; have f2 := hy1.frozen 2; have f3 := hy1.frozen 3; have f4 := hy1.frozen 4; have f5 := hy1.frozen 5; have f6 := hy1.frozen 6; have q0 := hy1.at.c0; have q1 := hy1.at.c1; have q2 := hy1.at.c2; have q3 := hy1.at.c3; have q4 := hy1.at.c4; have q5 := hy1.at.c5; have q6 := hy1.at.c6
    go_wp2
    have C := (hy1.put ⟨1, z, false, none, 0, 0, 0, ⟨#[]⟩, none, 0, 0⟩).at
    have hB5 := b1.put7 (g := w.heap.size + 1) (by omega) ⟨1, z, false, none, 0, 0, 0, ⟨#[]⟩, none, 0, 0⟩
    have y0 := C.c0; have y1 := C.c1; have y2 := C.c2; have y3 := C.c3; have y4 := C.c4; have y5 := C.c5; have y6 := C.c6
    clear C f0 f1 f2 f3 f4 f5 f6 q0 q1 q2 q3 q4 q5 q6
    change bodyPost _ _ _ _ _ (put7 w1 (w.heap.size + 1) ⟨1, z, false, none, 0, 0, 0, ⟨#[]⟩, none, 0, 0⟩)
    generalize put7 w1 (w.heap.size + 1) ⟨1, z, false, none, 0, 0, 0, ⟨#[]⟩, none, 0, 0⟩ = W5 at *
    exact bodyPost_ret (v := .tuple #[.agg #[.int .i64 1, .int .i64 z, .bool false, .slice none 0 0, .int .u64 0, .string ⟨#[]⟩, .slice none 0 0], .bool true]) (by simp [results, Try.results25, go_sem, y0, y1, y2, y3, y4, y5, y6]) rfl
      ⟨⟨1, z, false, none, 0, 0, 0, ⟨#[]⟩, none, 0, 0⟩, by rw [hM.out], by rw [hT.out]; exact TV.int hzb.1 hzb.2, by rw [hT.out]; exact Own.nil _ _, rfl, hB5⟩
  | false =>
    have x0 := hx1.c0
    have x1 := hx1.c1
    go_wp2_with fail
    refine (may_b w1 g A n c l h1).mono ?_
    rintro e w2 ⟨rfl, hb2⟩
    have hx2 := hx1.below' hb2
    have hy2 := hy1.below hb2
    have b2 := b1.trans (hb2.mono b1.size)
    have h2 := h1.below hb2
    have hsz2 : w.heap.size + 2 ≤ w2.heap.size := Nat.le_trans hsz1 hb2.size
    clear hx1 hy1 b1 h1 x0 x1
    cases hm : mayB g l with
    | false =>
      have hT := Lib.hid (show ofT g l = .mk 0 0 false [] 0 ⟨#[]⟩ [] by unfold ofT; rw [if_neg (by rw [hs]; decide), if_neg (by rw [hm]; decide)])
      have hM := Lib.hid hm
      have f0 := hy2.frozen 0; have f1 := hy2.frozen 1; have f2 := hy2.frozen 2; have f3 := hy2.frozen 3; have f4 := hy2.frozen 4; have f5 := hy2.frozen 5; have f6 := hy2.frozen 6; have q0 := hy2.at.c0; have q1 := hy2.at.c1; have q2 := hy2.at.c2; have q3 := hy2.at.c3; have q4 := hy2.at.c4; have q5 := hy2.at.c5; have q6 := hy2.at.c6
      go_wp2
      have C := (hy2.put zeroR).at
      have hB5 := b2.put7 (g := w.heap.size + 1) (by omega) zeroR
      have y0 := C.c0; have y1 := C.c1; have y2 := C.c2; have y3 := C.c3; have y4 := C.c4; have y5 := C.c5; have y6 := C.c6
      clear C f0 f1 f2 f3 f4 f5 f6 q0 q1 q2 q3 q4 q5 q6
      change bodyPost _ _ _ _ _ (put7 w2 (w.heap.size + 1) zeroR)
      generalize put7 w2 (w.heap.size + 1) zeroR = W5 at *
      exact bodyPost_ret (v := .tuple #[.agg #[.int .i64 0, .int .i64 0, .bool false, .slice none 0 0, .int .u64 0, .string ⟨#[]⟩, .slice none 0 0], .bool false]) (by simp [results, Try.results25, go_sem, y0, y1, y2, y3, y4, y5, y6]) rfl
        ⟨zeroR, by rw [hM.out], by rw [hT.out]; exact TV.zero, by rw [hT.out]; exact Own.nil _ _, rfl, hB5⟩
    | true =>
      have hT := Lib.hid (show ofT g l = .mk 2 0 g l 0 ⟨#[]⟩ [] by unfold ofT; rw [if_neg (by rw [hs]; decide), if_pos hm])
      have hM := Lib.hid hm
      have x0 := hx2.c0
      have x1 := hx2.c1
      go_wp2_with fail
      refine (copied_any w2 g A n c l h2 hn).mono ?_
      rintro e w3 ⟨A', c', rfl, hO, hb3⟩
      have hy3 := hy2.below hb3
      have b3 := b2.trans (hb3.mono b2.size)
      clear hx2 hy2 b2 h2 x0 x1
      have f0 := hy3.frozen 0; have f1 := hy3.frozen 1; have f2 := hy3.frozen 2; have f3 := hy3.frozen 3; have f4 := hy3.frozen 4; have f5 := hy3.frozen 5; have f6 := hy3.frozen 6; have q0 := hy3.at.c0; have q1 := hy3.at.c1; have q2 := hy3.at.c2; have q3 := hy3.at.c3; have q4 := hy3.at.c4; have q5 := hy3.at.c5; have q6 := hy3.at.c6
      go_wp2
      have C := (hy3.put ⟨2, 0, g, A', n, c', 0, ⟨#[]⟩, none, 0, 0⟩).at
      have hB5 := b3.put7 (g := w.heap.size + 1) (by omega) ⟨2, 0, g, A', n, c', 0, ⟨#[]⟩, none, 0, 0⟩
      have hO5 : Own (put7 w3 (w.heap.size + 1) ⟨2, 0, g, A', n, c', 0, ⟨#[]⟩, none, 0, 0⟩) w2.heap.size A' n c' l :=
        ((((((hO.setO (p := ⟨w.heap.size + 1, 0, none⟩) (by simp only; omega) _).setO (p := ⟨w.heap.size + 1, 1, none⟩) (by simp only; omega) _).setO (p := ⟨w.heap.size + 1, 2, none⟩) (by simp only; omega) _).setO (p := ⟨w.heap.size + 1, 3, none⟩) (by simp only; omega) _).setO (p := ⟨w.heap.size + 1, 4, none⟩) (by simp only; omega) _).setO (p := ⟨w.heap.size + 1, 5, none⟩) (by simp only; omega) _).setO (p := ⟨w.heap.size + 1, 6, none⟩) (by simp only; omega) _
      have y0 := C.c0; have y1 := C.c1; have y2 := C.c2; have y3 := C.c3; have y4 := C.c4; have y5 := C.c5; have y6 := C.c6
      clear C f0 f1 f2 f3 f4 f5 f6 q0 q1 q2 q3 q4 q5 q6
      change bodyPost _ _ _ _ _ (put7 w3 (w.heap.size + 1) ⟨2, 0, g, A', n, c', 0, ⟨#[]⟩, none, 0, 0⟩)
      generalize put7 w3 (w.heap.size + 1) ⟨2, 0, g, A', n, c', 0, ⟨#[]⟩, none, 0, 0⟩ = W5 at *
      exact bodyPost_ret (v := .tuple #[.agg #[.int .i64 2, .int .i64 0, .bool g, .slice A' n c', .int .u64 0, .string ⟨#[]⟩, .slice none 0 0], .bool true]) (by simp [results, Try.results25, go_sem, y0, y1, y2, y3, y4, y5, y6]) rfl
        ⟨⟨2, 0, g, A', n, c', 0, ⟨#[]⟩, none, 0, 0⟩, by rw [hM.out], by rw [hT.out]; exact TV.big hO5.lim hO5.cap.2, by rw [hT.out]; exact hO5.mono (by omega), rfl, hB5⟩
end Go.Proofs.Ytmcfokeibecopaa

namespace Go.Proofs.Ytmcfokeibecopaa
open Go.RowKit

/-- The term of a small integer. -/
def intT (z : Int) : Tm := ofT (decide (z < 0)) (Lm.digits z.natAbs)
set_option maxRecDepth 100000 in
theorem may_digits (z : Int) (ht : z.natAbs < Lm.top) : mayB (decide (z < 0)) (Lm.digits z.natAbs) = true := by
  unfold mayB
  by_cases h0 : (Lm.digits z.natAbs).length = 0
  · rw [if_pos h0]
    have : z.natAbs = 0 := Lm.digits_eq_nil.1 (List.eq_nil_of_length_eq_zero h0)
    have hz : z = 0 := by omega
    subst hz
    rfl
  · rw [if_neg h0]
    have h1 := (Lm.top_iff _).2 ht
    have h2 := Lm.canon_digits z.natAbs (by omega)
    simp [h1]
    exact h2
set_option maxRecDepth 100000 in
theorem sgn_digits (z : Int) : sgn (decide (z < 0)) (Lm.val (Lm.digits z.natAbs)) = z := by
  rw [Lm.val_digits]
  unfold sgn
  by_cases hz : z < 0
  · simp [hz]; omega
  · simp [hz]; omega
set_option maxRecDepth 100000 in
theorem intT_small {z : Int} (ht : z.natAbs < Lm.top) (h : smallB z = true) : intT z = .mk 1 z false [] 0 ⟨#[]⟩ [] := by
  unfold intT ofT smZ smOk
  rw [may_digits z ht, sgn_digits, h]
  rfl
set_option maxRecDepth 100000 in
theorem intT_big {z : Int} (ht : z.natAbs < Lm.top) (h : smallB z = false) : intT z = .mk 2 0 (decide (z < 0)) (Lm.digits z.natAbs) 0 ⟨#[]⟩ [] := by
  unfold intT ofT smOk
  rw [may_digits z ht, sgn_digits, h]
  rfl

set_option maxRecDepth 100000 in
theorem TVS.leafy {S : Nat → Prop} {w : World} {R : TR} {t : Tm} (h : TV w R t) (ho : 0 < R.ln → ∀ a, R.A = some a → S a.block) (hm : R.m = 0) : TVS S w R t := by
  cases h with
  | mk _ l ks V hf hm' hs hk =>
    refine .mk R l ks V hf hm' hs ⟨ho, fun h => absurd h (by omega)⟩ (fun i t e => ?_)
    rw [List.eq_nil_of_length_eq_zero (hm'.trans hm)] at e
    simp at e
/-- A call leaves this term. -/
def RetT (w : World) (t : Tm) (e : Ending) (w' : World) : Prop := ∃ R : TR, e = .returned (.agg #[.int .i64 R.k, .int .i64 R.n, .bool R.g, .slice R.A R.ln R.lc, .int .u64 R.u, .string R.s, .slice R.B R.m R.d]) ∧ TV w' R t ∧ Below w.heap.size w w'

set_option maxRecDepth 100000 in
set_option maxHeartbeats 2000000 in
theorem int_any (w : World) (z : Int) (h1 : -9223372036854775808 ≤ z) (h2 : z ≤ 9223372036854775807) :
    Calls Try.prog 16 #[.int .i64 z] w (RetT w (intT z)) := by
  have b0 := (Below.refl w.heap.size w).alloc (Nat.le_refl _) (.cells #[.int .i64 zeroR.k, .int .i64 zeroR.n, .bool zeroR.g, .slice zeroR.A zeroR.ln zeroR.lc, .int .u64 zeroR.u, .string zeroR.s, .slice zeroR.B zeroR.m zeroR.d] 28)
  have hx := Box7.new w zeroR
  have htop : z.natAbs < Lm.top := by have := Lm.top_ge; omega
  have hlen := (Lm.top_iff _).2 htop
  go_enter Try.func16, Try.ntmps16
  go_wp2_with fail
  have hW : (w.alloc (.cells #[.int .i64 zeroR.k, .int .i64 zeroR.n, .bool zeroR.g, .slice zeroR.A zeroR.ln zeroR.lc, .int .u64 zeroR.u, .string zeroR.s, .slice zeroR.B zeroR.m zeroR.d] 28)).heap.size = w.heap.size + 1 := by simp
  generalize w.alloc (.cells #[.int .i64 zeroR.k, .int .i64 zeroR.n, .bool zeroR.g, .slice zeroR.A zeroR.ln zeroR.lc, .int .u64 zeroR.u, .string zeroR.s, .slice zeroR.B zeroR.m zeroR.d] 28) = W at *
  refine (of_any W z h1 h2).mono ?_
  rintro e w1 ⟨V, rfl, ⟨s, A, n, c, rfl, hs, hO⟩, hb1⟩
  have hx1 := hx.below hb1
  have b1 := b0.trans (hb1.mono b0.size)
  have hsz1 : w.heap.size + 1 ≤ w1.heap.size := by rw [← hW]; exact hb1.size
  have hn : n ≤ 1000 := by rw [← hO.2.1]; omega
  go_wp2_with fail
  refine (ofNum_any w1 s A n c _ ⟨hO.lim, hO.cap.2⟩ hn).mono ?_
  rintro e w2 ⟨R, rfl, hT, hO2, hm0, hb2⟩
  have tS0 : TVS (fun b => w.heap.size + 1 ≤ b) w2 R _ := TVS.leafy hT (fun _ a e => by rw [e] at hO2; have := (World.ownsRow.lt hO2.2.2 a.block rfl).1; omega) hm0
  clear hm0 hO2
  rw [hs.out] at tS0
  have tS := Lib.hid tS0
  clear tS0 hT
  have hx2 := hx1.below hb2
  have b2 := b1.trans (hb2.mono b1.size)
  have hsz2 : w.heap.size + 1 ≤ w2.heap.size := Nat.le_trans hsz1 hb2.size
  generalize mayB s (Lm.digits z.natAbs) = ok
  clear hx hx1 b0 b1 hO hs
  have f0 := hx2.frozen 0; have f1 := hx2.frozen 1; have f2 := hx2.frozen 2; have f3 := hx2.frozen 3; have f4 := hx2.frozen 4; have f5 := hx2.frozen 5; have f6 := hx2.frozen 6; have q0 := hx2.at.c0; have q1 := hx2.at.c1; have q2 := hx2.at.c2; have q3 := hx2.at.c3; have q4 := hx2.at.c4; have q5 := hx2.at.c5; have q6 := hx2.at.c6
  have hlt : w.heap.size < w2.heap.size := by omega
  go_wp2
  have C := ((hx2.put R).below ((Below.refl _ _).alloc (Nat.le_refl _) (.cells #[.int .i64 R.k, .int .i64 R.n, .bool R.g, .slice R.A R.ln R.lc, .int .u64 R.u, .string R.s, .slice R.B R.m R.d] 28))).at
  have hB5 := (b2.put7 (g := w.heap.size) (Nat.le_refl _) R).alloc (by rw [put7_size]; omega) (.cells #[.int .i64 R.k, .int .i64 R.n, .bool R.g, .slice R.A R.ln R.lc, .int .u64 R.u, .string R.s, .slice R.B R.m R.d] 28)
  have hT5 := (tS.out.keep (((Keeps.refl _ w2).put7 (g := w.heap.size) (by omega) R).alloc (.cells #[.int .i64 R.k, .int .i64 R.n, .bool R.g, .slice R.A R.ln R.lc, .int .u64 R.u, .string R.s, .slice R.B R.m R.d] 28))).tv
  have y0 := C.c0; have y1 := C.c1; have y2 := C.c2; have y3 := C.c3; have y4 := C.c4; have y5 := C.c5; have y6 := C.c6
  clear C f0 f1 f2 f3 f4 f5 f6 q0 q1 q2 q3 q4 q5 q6 hx2 b2 tS
  change bodyPost _ _ _ _ _ ((put7 w2 w.heap.size R).alloc (.cells #[.int .i64 R.k, .int .i64 R.n, .bool R.g, .slice R.A R.ln R.lc, .int .u64 R.u, .string R.s, .slice R.B R.m R.d] 28))
  generalize (put7 w2 w.heap.size R).alloc (.cells #[.int .i64 R.k, .int .i64 R.n, .bool R.g, .slice R.A R.ln R.lc, .int .u64 R.u, .string R.s, .slice R.B R.m R.d] 28) = W5 at *
  exact bodyPost_ret (v := .agg #[.int .i64 R.k, .int .i64 R.n, .bool R.g, .slice R.A R.ln R.lc, .int .u64 R.u, .string R.s, .slice R.B R.m R.d]) (by simp [results, Try.results16, go_sem, y0, y1, y2, y3, y4, y5, y6]) rfl ⟨R, rfl, hT5, hB5⟩

end Go.Proofs.Ytmcfokeibecopaa

namespace Go.Proofs.Ytmcfokeibecopaa
open Go.RowKit

set_option maxRecDepth 100000 in
/-- append, as one step of a region that draws. -/
theorem step_app {P : Program} {ops : Array Oper} {o : Oper} {a : Act} {w w' : World} {K : Act → World → Prop} {Q : Exit → Act → World → Prop} {E : Prop}
    (hg : o.guard = none) (s x : Operand) (t : TypeId) (hop : o.op = Op.call { callee := Callee.builtin Builtin.append, args := #[s, x], argTypes := #[t, t] })
    (v y v' : Value) (hs : a.eval s = v) (hx : a.eval x = y) (hrun : (Builtin.append_ #[t, t] o.type #[v, y]).run P w = .ok v' w')
    (hK : K (a.put o.dst v') w') : if Region.wanted o (yielded ops a.tmps) = true then Oper.wp P o a w K Q else E := by
  have hw : Region.wanted o (yielded ops a.tmps) = true := by simp [Region.wanted, hg]
  rw [if_pos hw]
  unfold Oper.wp
  simp [execOp, hop, resolve, invoke, builtin, hs, hx, hrun, Result.andThen]
  exact hK

end Go.Proofs.Ytmcfokeibecopaa

namespace Go.Proofs.Ytmcfokeibecopaa
open Go.RowKit

set_option maxRecDepth 100000 in
theorem look_none (w : World) (a : Addr) (n : Int) : (Instr.lookup 52 (.map none) (.agg #[.pointer (some a), .int .i64 n]) true).run Try.prog w = .ok (.tuple #[.slice none 0 0, .bool false]) w := by
  kernel_rfl
set_option maxRecDepth 100000 in
theorem neq_nilmade (w : World) : (binOp .neq 52 (.map none) (.map none)).run Try.prog w = .ok (.bool false) w := by
  have h : ∀ d : Nat, (Op.equalIn (d + 1) 52 (.map none) (.map none)).run Try.prog w = .ok true w := fun d => by
    simp [Op.equalIn, run_underlying Try.underlying52]
  simp only [binOp]
  simp [Op.equal, Op.maxDepth, h 9999]

set_option maxRecDepth 100000 in
theorem Tm.sizes_take {ts : List Tm} {j : Nat} {t : Tm} (h : ts[j]? = some t) : Tm.size.sizes (ts.take (j + 1)) = Tm.size.sizes (ts.take j) + t.size := by
  induction ts generalizing j with
  | nil => simp at h
  | cons a r ih =>
    cases j with
    | zero => simp at h; subst h; simp [Tm.size.sizes]
    | succ j =>
      simp at h
      have := ih h
      simp only [List.take_succ_cons, Tm.size.sizes, this]
      omega
set_option maxRecDepth 100000 in
theorem Tm.sizes_take_le (ts : List Tm) (j : Nat) : Tm.size.sizes (ts.take j) ≤ Tm.size.sizes ts := by
  induction ts generalizing j with
  | nil => simp
  | cons a r ih =>
    cases j with
    | zero => simp [Tm.size.sizes]
    | succ j => have := ih j; simp only [List.take_succ_cons, Tm.size.sizes]; omega

set_option maxRecDepth 100000 in
set_option maxHeartbeats 2000000 in
theorem left_args (t : Tm) : ∀ (w : World) (B : Option Addr) (m d : Nat), TVs w B m d t.args → ∀ most : Int, (Tm.size.sizes t.args : Int) < most → most ≤ 1000000000 →
    Calls Try.prog 30 #[.slice B m d, .int .i64 most] w fun e w' => e = .returned (.int .i64 (most - (Tm.size.sizes t.args : Int))) ∧ Below w.heap.size w w' := by
  induction t using Tm.ind with
  | h k n g l u s ks ih =>
    intro w B m d hts most hm0 hm1
    have IH := Lib.hid ih
    clear ih
    rw [show (Tm.mk k n g l u s ks).args = ks from rfl] at hts hm0 ⊢
    obtain ⟨R, hR⟩ : ∃ R, R = most - (Tm.size.sizes ks : Int) := ⟨_, rfl⟩
    rw [← hR]
    have HR := Lib.hid hR
    have H0 := Lib.hid hm0
    clear hR hm0
    have hml : m ≤ maxLen := Nat.le_trans hts.md hts.dd
    have hml' : (m : Int) ≤ 9223372036854775807 := by unfold maxLen at hml; omega
    go_enter Try.func30, Try.ntmps30
    go_wp2_with fail
    go_loopw [1, 5] (fun x i w' => ∃ (j : Nat) (z : Int), j ≤ m ∧ i = .int .i64 (j : Int) ∧ x = .int .i64 z ∧ 0 < z ∧ z ≤ most ∧ Hid (z = most - (Tm.size.sizes (ks.take j) : Int)) ∧ Below w.heap.size w w') (fun _ i _ => m - (intOf i).toNat)
    case atStart => exact ⟨0, most, Nat.zero_le _, rfl, rfl, by have := H0.out; omega, by omega, Lib.hid (by simp [Tm.size.sizes]), Below.refl _ _⟩
    case round =>
      obtain ⟨j, z, hj, rfl, rfl, hz0, hz1, hz, hb⟩ := hrel
      by_cases hjm : j < m
      · obtain ⟨b, o, r, t, e, hlt, h7, het, htv⟩ := (hts.below hb).get j hjm
        subst e
        have c6 := h7.c6
        have st := Lib.hid (Tm.sizes_take het)
        have hd1 : decide ((j : Int) < (m : Int)) = true := by rw [decide_eq_true_iff]; omega
        have hd2 : decide (0 < z) = true := by rw [decide_eq_true_iff]; exact hz0
        have hsz : (Tm.size.sizes t.args : Int) < z - 1 := by
          have h1 := hz.out
          have h2 := st.out
          have h3 := Tm.sizes_take_le ks (j + 1)
          have h4 := H0.out
          have h5 : t.size = 1 + Tm.size.sizes t.args := by cases t; rw [Tm.size]; rfl
          omega
        have hst := Lib.hid (show z - 1 - (Tm.size.sizes t.args : Int) = most - (Tm.size.sizes (ks.take (j + 1)) : Int) by
          have h1 := hz.out
          have h2 := st.out
          have h5 : t.size = 1 + Tm.size.sizes t.args := by cases t; rw [Tm.size]; rfl
          omega)
        go_wp2_with fail
        refine (IH.out t (List.mem_of_getElem? het) wr r.B r.m r.d htv.args (z - 1) hsz (by omega)).mono ?_
        have hnn : (0 : Int) ≤ (Tm.size.sizes t.args : Int) := by omega
        generalize (Tm.size.sizes t.args : Int) = q at hst hsz hnn ⊢
        rintro e w1 ⟨rfl, hb1⟩
        go_wp2_with fail
        exact ⟨⟨j + 1, z - 1 - q, by omega, by go_num, by go_num, by omega, by omega, hst, hb.trans (hb1.mono hb.size)⟩, by simp [intOf]; omega⟩
      · have hfin := Lib.hid (show R = z by
          rw [HR.out, hz.out, List.take_of_length_le (by rw [hts.len]; omega)])
        have hd1 : decide ((j : Int) < (m : Int)) = false := by rw [decide_eq_false_iff_not]; omega
        go_wp2_with fail
        go_ret
        exact ⟨by rw [hfin.out]; rfl, hb⟩
set_option maxRecDepth 100000 in
theorem left_any (w : World) (B : Option Addr) (m d : Nat) (ts : List Tm) (h : TVs w B m d ts) (most : Int) (h0 : (Tm.size.sizes ts : Int) < most) (h1 : most ≤ 1000000000) :
    Calls Try.prog 30 #[.slice B m d, .int .i64 most] w fun e w' => e = .returned (.int .i64 (most - (Tm.size.sizes ts : Int))) ∧ Below w.heap.size w w' :=
  left_args (.mk 0 0 false [] 0 ⟨#[]⟩ ts) w B m d h most h0 h1
end Go.Proofs.Ytmcfokeibecopaa

namespace Go.Proofs.Ytmcfokeibecopaa
open Go.RowKit

set_option maxRecDepth 100000 in
theorem make_terms (n : Nat) (hn : n ≤ 100000) (w : World) :
    (Instr.makeSlice 26 (.int .i64 (n : Int)) (.int .i64 (n : Int))).run Try.prog w = .ok (.slice (some ⟨w.heap.size, 0, none⟩) n n) (w.alloc (.cells (madeCells (Value.cells (.agg #[.int .i64 zeroR.k, .int .i64 zeroR.n, .bool zeroR.g, .slice zeroR.A zeroR.ln zeroR.lc, .int .u64 zeroR.u, .string zeroR.s, .slice zeroR.B zeroR.m zeroR.d])) (n * 7)) 28)) := by
  obtain ⟨i, hi, hz, hs, hb⟩ := info_term'
  have h := run_make (P := Try.prog) w 26 28 i _ und_terms hi hz .i64 .i64 n n (by omega) (by omega) (by rw [hb]; omega) (by omega)
  rw [hs] at h
  simp only [Int.toNat_natCast] at h
  exact h

/-- What stands while terms are copied one by one: the copier at p, the new row at g, so many elements of it done. -/
structure CpI (w : World) (ts : List Tm) (m g j : Nat) (W : World) : Prop where
  cop : W.heap[w.heap.size]? = some (.cells #[.map none] 54 (0, 0))
  be : Below w.heap.size w W
  pg : w.heap.size < g
  row : ∃ (cs : Array Value) (V : Nat → TR), W.heap[g]? = some (.cells cs 28 (0, 0)) ∧ cs.size = m * 7 ∧ (∀ i, i < j → ∀ k, k < 7 → cs[i * 7 + k]? = (V i).cells[k]?) ∧
    ∀ i t, i < j → ts[i]? = some t → TVS (fun b => w.heap.size < b ∧ b ≠ g) W (V i) t
set_option maxRecDepth 100000 in
theorem CpI.glt {w : World} {ts : List Tm} {m g j : Nat} {W : World} (h : CpI w ts m g j W) : g < W.heap.size := by
  obtain ⟨cs, V, h1, _⟩ := h.row
  exact (Array.getElem?_eq_some_iff.1 h1).1
set_option maxRecDepth 100000 in
theorem CpI.plt {w : World} {ts : List Tm} {m g j : Nat} {W : World} (h : CpI w ts m g j W) : w.heap.size < W.heap.size := (Array.getElem?_eq_some_iff.1 h.cop).1
set_option maxRecDepth 100000 in
theorem CpI.below {w : World} {ts : List Tm} {m g j : Nat} {W W' : World} (h : CpI w ts m g j W) (hb : Below W.heap.size W W') : CpI w ts m g j W' := by
  obtain ⟨cs, V, h1, h2, h3, h4⟩ := h.row
  exact ⟨(hb.block _ h.plt).trans h.cop, h.be.trans (hb.mono h.be.size), h.pg, cs, V, (hb.block _ h.glt).trans h1, h2, h3, fun i t hi e => (h4 i t hi e).keep (hb.keeps _)⟩
set_option maxRecDepth 100000 in
/-- A cell of the new row. -/
theorem CpI.cell {w : World} {ts : List Tm} {m g j : Nat} {W : World} (h : CpI w ts m g j W) {x : Nat} (hx : x < m * 7) : ∃ v, W.cell? ⟨g, x, none⟩ = some v := by
  obtain ⟨cs, V, h1, h2, _⟩ := h.row
  exact ⟨cs[x]'(by omega), by rw [cell_of_row W g x cs _ (0, 0) h1]; exact Array.getElem?_eq_getElem (by omega)⟩
set_option maxRecDepth 100000 in
theorem CpI.frozen {w : World} {ts : List Tm} {m g j : Nat} {W : World} (h : CpI w ts m g j W) (x : Nat) : W.frozen? ⟨g, x, none⟩ = false := by
  obtain ⟨cs, V, h1, _⟩ := h.row
  simp [World.frozen?, h1]
set_option maxRecDepth 100000 in
/-- A cell of the row that is not among those done is written. -/
theorem CpI.set {w : World} {ts : List Tm} {m g j : Nat} {W : World} (h : CpI w ts m g j W) {x : Nat} (hx : j * 7 ≤ x) (v : Value) : CpI w ts m g j (W.setCell ⟨g, x, none⟩ v) := by
  have hpg := h.pg
  obtain ⟨cs, V, h1, h2, h3, h4⟩ := h.row
  refine ⟨(Below.heap_setCell W ⟨g, x, none⟩ v w.heap.size (by simp only; omega)).trans h.cop, h.be.setCell (p := ⟨g, x, none⟩) (by simp only; omega) v, h.pg, cs.setIfInBounds x v, V, ?_, by simp [h2], fun i hi k hk => ?_, fun i t hi e => (h4 i t hi e).keep ((Keeps.refl _ _).setCell (by simp) v)⟩
  · simp [World.setCell, Array.getElem?_modify, h1]
  · rw [Array.getElem?_setIfInBounds_ne (by omega)]
    exact h3 i hi k hk
set_option maxRecDepth 100000 in
/-- One more is done. -/
theorem CpI.step {w : World} {ts : List Tm} {m g j : Nat} {W : World} (h : CpI w ts m g j W) {R : TR} {t : Tm} (ht : ts[j]? = some t) (hR : TVS (fun b => w.heap.size < b ∧ b ≠ g) W R t) (h7 : At7 W g (j * 7) R) : CpI w ts m g (j + 1) W := by
  obtain ⟨cs, V, h1, h2, h3, h4⟩ := h.row
  refine ⟨h.cop, h.be, h.pg, cs, fun i => if i < j then V i else R, h1, h2, fun i hi k hk => ?_, fun i x hi e => ?_⟩
  · by_cases hij : i < j
    · simp only [hij, if_true]; exact h3 i hij k hk
    · have : i = j := by omega
      subst this
      simp only [hij, if_false]
      have hc : ∀ k, W.cell? ⟨g, i * 7 + k, none⟩ = cs[i * 7 + k]? := fun k => cell_of_row W g _ cs _ (0, 0) h1
      rw [← hc]
      have hk' : k = 0 ∨ k = 1 ∨ k = 2 ∨ k = 3 ∨ k = 4 ∨ k = 5 ∨ k = 6 := by omega
      rcases hk' with rfl | rfl | rfl | rfl | rfl | rfl | rfl
      · exact h7.c0
      · exact h7.c1
      · exact h7.c2
      · exact h7.c3
      · exact h7.c4
      · exact h7.c5
      · exact h7.c6
  · by_cases hij : i < j
    · simp only [hij, if_true]; exact h4 i x hij e
    · have : i = j := by omega
      subst this
      simp only [hij, if_false]
      rw [ht] at e
      cases e
      exact hR
set_option maxRecDepth 100000 in
/-- All are done. -/
theorem CpI.all {w : World} {ts : List Tm} {m g : Nat} {W : World} (h : CpI w ts m g m W) (hl : ts.length = m) (hm : m ≤ 100000) : TVSs (fun b => w.heap.size ≤ b) W (some ⟨g, 0, none⟩) m m ts := by
  obtain ⟨cs, V, h1, h2, h3, h4⟩ := h.row
  have hpg := h.pg
  refine ⟨hl, Nat.le_refl _, by unfold maxLen; omega, fun _ a e => by cases e; simp only; omega, V, fun _ => ⟨g, 0, rfl, h.glt, fun i hi => At7.of fun k hk => ?_⟩, fun i t e => ?_⟩
  · rw [add_none, cell_of_row W g _ cs _ (0, 0) h1, Nat.zero_add]
    exact h3 i hi k hk
  · have hi : i < m := by rw [← hl]; exact (List.getElem?_eq_some_iff.1 e).1
    exact (h4 i t hi e).mono fun b hb => by omega

/-- A record is written into the row, from cell x on. -/
@[reducible] def put7o (w : World) (g x : Nat) (r : TR) : World :=
  ((((((w.setCell ⟨g, x, none⟩ (.int .i64 r.k)).setCell ⟨g, x + 1, none⟩ (.int .i64 r.n)).setCell ⟨g, x + 2, none⟩ (.bool r.g)).setCell ⟨g, x + 3, none⟩ (.slice r.A r.ln r.lc)).setCell ⟨g, x + 4, none⟩ (.int .u64 r.u)).setCell ⟨g, x + 5, none⟩ (.string r.s)).setCell ⟨g, x + 6, none⟩ (.slice r.B r.m r.d)
set_option maxRecDepth 100000 in
theorem setOth {w : World} {g x y : Nat} {u : Value} {X : Option Value} (h : w.cell? ⟨g, y, none⟩ = X) (hn : x ≠ y) : (w.setCell ⟨g, x, none⟩ u).cell? ⟨g, y, none⟩ = X := by
  exact (World.cell?_setCell_other w _ _ _ (fun e => by cases e; exact hn rfl)).trans h
set_option maxRecDepth 100000 in
theorem setAny {w : World} {g x y : Nat} {u : Value} (h : ∃ v, w.cell? ⟨g, y, none⟩ = some v) : ∃ v, (w.setCell ⟨g, x, none⟩ u).cell? ⟨g, y, none⟩ = some v := by
  obtain ⟨v, h⟩ := h
  exact cell?_setCell_some h
set_option maxRecDepth 100000 in
theorem setSame {w : World} {g x : Nat} {u : Value} (h : ∃ v, w.cell? ⟨g, x, none⟩ = some v) : (w.setCell ⟨g, x, none⟩ u).cell? ⟨g, x, none⟩ = some u := by
  obtain ⟨v, h⟩ := h
  exact World.cell?_setCell_same w _ _ h
set_option maxRecDepth 100000 in
theorem put7o_at {W : World} {g x : Nat} (r : TR) (h : ∀ k, k < 7 → ∃ v, W.cell? ⟨g, x + k, none⟩ = some v) : At7 (put7o W g x r) g x r where
  c0 := setOth (setOth (setOth (setOth (setOth (setOth (setSame (h 0 (by omega))) (by omega)) (by omega)) (by omega)) (by omega)) (by omega)) (by omega)
  c1 := setOth (setOth (setOth (setOth (setOth (setSame (setAny (h 1 (by omega)))) (by omega)) (by omega)) (by omega)) (by omega)) (by omega)
  c2 := setOth (setOth (setOth (setOth (setSame (setAny (setAny (h 2 (by omega))))) (by omega)) (by omega)) (by omega)) (by omega)
  c3 := setOth (setOth (setOth (setSame (setAny (setAny (setAny (h 3 (by omega)))))) (by omega)) (by omega)) (by omega)
  c4 := setOth (setOth (setSame (setAny (setAny (setAny (setAny (h 4 (by omega))))))) (by omega)) (by omega)
  c5 := setOth (setSame (setAny (setAny (setAny (setAny (setAny (h 5 (by omega)))))))) (by omega)
  c6 := setSame (setAny (setAny (setAny (setAny (setAny (setAny (h 6 (by omega))))))))
set_option maxRecDepth 100000 in
theorem CpI.put {w : World} {ts : List Tm} {m g j : Nat} {W : World} (h : CpI w ts m g j W) (r : TR) : CpI w ts m g j (put7o W g (j * 7) r) :=
  ((((((h.set (x := j * 7) (by omega) _).set (x := j * 7 + 1) (by omega) _).set (x := j * 7 + 2) (by omega) _).set (x := j * 7 + 3) (by omega) _).set (x := j * 7 + 4) (by omega) _).set (x := j * 7 + 5) (by omega) _).set (x := j * 7 + 6) (by omega) _
set_option maxRecDepth 100000 in
theorem At7.set3 {W : World} {g x : Nat} {r : TR} (h : At7 W g x r) (A : Option Addr) (n c : Nat) : At7 (W.setCell ⟨g, x + 3, none⟩ (.slice A n c)) g x ⟨r.k, r.n, r.g, A, n, c, r.u, r.s, r.B, r.m, r.d⟩ :=
  ⟨setOth h.c0 (by omega), setOth h.c1 (by omega), setOth h.c2 (by omega), setSame ⟨_, h.c3⟩, setOth h.c4 (by omega), setOth h.c5 (by omega), setOth h.c6 (by omega)⟩
set_option maxRecDepth 100000 in
theorem At7.set6 {W : World} {g x : Nat} {r : TR} (h : At7 W g x r) (B : Option Addr) (n c : Nat) : At7 (W.setCell ⟨g, x + 6, none⟩ (.slice B n c)) g x ⟨r.k, r.n, r.g, r.A, r.ln, r.lc, r.u, r.s, B, n, c⟩ :=
  ⟨setOth h.c0 (by omega), setOth h.c1 (by omega), setOth h.c2 (by omega), setOth h.c3 (by omega), setOth h.c4 (by omega), setOth h.c5 (by omega), setSame ⟨_, h.c6⟩⟩

set_option maxRecDepth 100000 in
theorem TVS.copied {S : Nat → Prop} {w W : World} {r : TR} {t : Tm} {A B : Option Addr} {n c m d : Nat} (h : TV w r t) (L : Lim W A n c t.mag) (hc : c ≤ maxLen) (hS : 0 < n → ∀ a, A = some a → S a.block) (hT : TVSs S W B m d t.args) :
    TVS S W ⟨r.k, r.n, r.g, A, n, c, r.u, r.s, B, m, d⟩ t := by
  obtain ⟨V, h1, h2⟩ := hT.el
  have F := h.flat
  have := TVS.mk (S := S) (w := W) ⟨r.k, r.n, r.g, A, n, c, r.u, r.s, B, m, d⟩ t.mag t.args V ⟨F.k0, F.k1, F.n0, F.n1, F.u0, F.u1, L, hc, F.str, hT.md, hT.dd⟩ hT.len h1 ⟨hS, fun h a e => hT.on h a e⟩ h2
  have et : Tm.mk r.k r.n r.g t.mag r.u r.s t.args = t := by
    have e1 := h.kind
    have e2 := h.num
    have e3 := h.neg
    have e4 := h.bits
    have e5 := h.bytes
    cases t
    simp only [Tm.kind, Tm.num, Tm.neg, Tm.bits, Tm.bytes] at e1 e2 e3 e4 e5
    subst e1 e2 e3 e4 e5
    rfl
  rw [← et]
  exact this

set_option maxRecDepth 100000 in
set_option maxRecDepth 100000 in
set_option maxHeartbeats 8000000 in
theorem terms_of (ts : List Tm) (ih : ∀ t ∈ ts, ∀ (w : World) (B : Option Addr) (m d : Nat), TVs w B m d t.args → Calls Try.prog 31 #[.agg #[.map none], .slice B m d] w (CpTs w t.args))
    (hok : ∀ t ∈ ts, t.Ok) (w : World) (B : Option Addr) (m d : Nat) (hts : TVs w B m d ts) (hm : m ≤ 100000) :
    Calls Try.prog 31 #[.agg #[.map none], .slice B m d] w (CpTs w ts) := by
  have IH := Lib.hid ih
  clear ih
  have hlen := hts.len
  by_cases h0 : m = 0
  · subst h0
    have e : ts = [] := List.eq_nil_of_length_eq_zero hlen
    subst e
    go_enter Try.func31, Try.ntmps31
    go_wp2
    go_ret
    exact ⟨none, 0, 0, rfl, TVSs.nil _ _ _ _ (Nat.zero_le _), (Below.refl _ _).alloc (Nat.le_refl _) _⟩
  · obtain ⟨b0, o0, hB⟩ : ∃ b0 o0, B = some ⟨b0, o0, none⟩ := by
      obtain ⟨V, h1, _⟩ := hts.el
      obtain ⟨b, o, e, _⟩ := h1 (by omega)
      exact ⟨b, o, e⟩
    subst hB
    have e0 : ((m : Int) == 0) = false := by rw [beq_eq_false_iff_ne]; omega
    have hpos : (0 : Int) < (m : Int) := by omega
    have hlk := look_none
    have hnq := neq_nilmade
    have hmk := make_terms m hm
    go_enter Try.func31, Try.ntmps31
    have hb0 : b0 < w.heap.size := by
      obtain ⟨V, h1, _⟩ := hts.el
      obtain ⟨b, o, e, hlt, _⟩ := h1 (by omega)
      cases e
      exact hlt
    have J0 : CpI w ts m (w.heap.size + 1 + 1) 0 (((w.alloc (.cells #[.map none] 54)).alloc (.cells #[.pointer (some ⟨b0, o0, none⟩), .int .i64 (m : Int)] 72)).alloc (.cells (madeCells (Value.cells (.agg #[.int .i64 zeroR.k, .int .i64 zeroR.n, .bool zeroR.g, .slice zeroR.A zeroR.ln zeroR.lc, .int .u64 zeroR.u, .string zeroR.s, .slice zeroR.B zeroR.m zeroR.d])) (m * 7)) 28)) := by
      refine ⟨?_, (((Below.refl _ _).alloc (Nat.le_refl _) _).alloc (by simp) _).alloc (by simp; omega) _, by omega, madeCells (Value.cells (.agg #[.int .i64 zeroR.k, .int .i64 zeroR.n, .bool zeroR.g, .slice zeroR.A zeroR.ln zeroR.lc, .int .u64 zeroR.u, .string zeroR.s, .slice zeroR.B zeroR.m zeroR.d])) (m * 7), fun _ => default, ?_, size_madeCells _ _, fun i hi => absurd hi (by omega), fun i t hi => absurd hi (by omega)⟩
      · rw [Below.heap_alloc _ _ _ (by simp; omega), Below.heap_alloc _ _ _ (by simp)]
        exact heap_alloc_new w _
      · have := heap_alloc_new ((w.alloc (.cells #[.map none] 54)).alloc (.cells #[.pointer (some ⟨b0, o0, none⟩), .int .i64 (m : Int)] 72)) (.cells (madeCells (Value.cells (.agg #[.int .i64 zeroR.k, .int .i64 zeroR.n, .bool zeroR.g, .slice zeroR.A zeroR.ln zeroR.lc, .int .u64 zeroR.u, .string zeroR.s, .slice zeroR.B zeroR.m zeroR.d])) (m * 7)) 28)
        simpa using this
    go_wp2_with fail
    obtain ⟨g, hg⟩ : ∃ g, g = w.heap.size + 1 + 1 := ⟨_, rfl⟩
    rw [← hg] at J0 ⊢
    clear hg hlk hnq hmk
    go_loopw [39] (fun i w' => ∃ j : Nat, j ≤ m ∧ i = .int .i64 (j : Int) ∧ CpI w ts m g j w') (fun i _ => m - (intOf i).toNat)
    case atStart => exact ⟨0, Nat.zero_le _, rfl, J0⟩
    case round =>
      clear J0
      obtain ⟨j, hj, rfl, J⟩ := hrel
      by_cases hjm : j < m
      · have hd1 : decide ((j : Int) < (m : Int)) = true := by rw [decide_eq_true_iff]; omega
        obtain ⟨b', o', r', t', e, hlt, h7w, het, htvw⟩ := hts.get j hjm
        cases e
        have h7 := h7w.below J.be hlt
        have hpg := J.pg
        have hne : b0 ≠ g := by omega
        have hmem := List.mem_of_getElem? het
        have y0 := h7.c0; have y1 := h7.c1; have y2 := h7.c2; have y3 := h7.c3; have y4 := h7.c4; have y5 := h7.c5; have y6 := h7.c6
        obtain ⟨v0, q0⟩ := J.cell (x := j * 7) (by omega)
        obtain ⟨v1, q1⟩ := J.cell (x := j * 7 + 1) (by omega)
        obtain ⟨v2, q2⟩ := J.cell (x := j * 7 + 2) (by omega)
        obtain ⟨v3, q3⟩ := J.cell (x := j * 7 + 3) (by omega)
        obtain ⟨v4, q4⟩ := J.cell (x := j * 7 + 4) (by omega)
        obtain ⟨v5, q5⟩ := J.cell (x := j * 7 + 5) (by omega)
        obtain ⟨v6, q6⟩ := J.cell (x := j * 7 + 6) (by omega)
        have f0 := J.frozen (j * 7)
        have f1 := J.frozen (j * 7 + 1)
        have f2 := J.frozen (j * 7 + 2)
        have f3 := J.frozen (j * 7 + 3)
        have f4 := J.frozen (j * 7 + 4)
        have f5 := J.frozen (j * 7 + 5)
        have f6 := J.frozen (j * 7 + 6)
        have HJ := Lib.hid J
        clear J
        go_upto_region 14 with fail
        have J1 := HJ.out.put r'
        have G1 := put7o_at r' (fun k hk => HJ.out.cell (x := j * 7 + k) (by omega))
        change Code.wp _ _ _ _ (put7o wr g (j * 7) r')
        clear v0 v1 v2 v3 v4 v5 v6 q0 q1 q2 q3 q4 q5 q6 f0 f1 f2 f3 f4 f5 f6 y0 y1 y2 y3 y4 y5 y6 h7 HJ
        generalize put7o wr g (j * 7) r' = W1 at *
        have hln := Ok.limbs htvw (hok t' hmem)
        have tv1 := htvw.bel J1.be
        have h7 := h7w.below J1.be hlt
        obtain ⟨A', c', W2, hrun, hO, hB⟩ := append_lim W1 W1.heap.size none 0 0 [] (Own.nil _ _) r'.A r'.ln r'.lc t'.mag tv1.flat.lim (by omega) (Nat.le_refl _) 22
        rw [Nat.zero_add, List.nil_append] at hO
        rw [Nat.zero_add] at hrun
        have HR := Lib.hid hrun
        clear hrun
        have J2 := J1.below hB
        have G2 := G1.below hB J1.glt
        have y3 := h7.c3
        have q3 := G2.c3
        have f3 := J2.frozen (j * 7 + 3)
        have hgl := J1.glt
        have HJ := Lib.hid J2
        have HG := Lib.hid G2
        clear J1 G1 J2 G2
        go_upto_region 15 with (at_builtin; refine wpList_append_run rfl _ _ _ rfl _ _ _ rfl rfl HR.out ?_)
        change Code.wp _ _ _ _ (W2.setCell ⟨g, j * 7 + 3, none⟩ (.slice A' r'.ln c'))
        have J3 := HJ.out.set (x := j * 7 + 3) (by omega) (.slice A' r'.ln c')
        have G3 := HG.out.set3 A' r'.ln c'
        have hbk : 0 < r'.ln → ∀ a, A' = some a → w.heap.size < a.block ∧ a.block ≠ g := fun _ a e => by
          subst e
          have := (World.ownsRow.lt hO.2.2 a.block rfl).1
          exact ⟨by omega, by omega⟩
        have L3 := hO.lim.keep (S := fun b => w.heap.size < b ∧ b ≠ g) (w' := W2.setCell ⟨g, j * 7 + 3, none⟩ (.slice A' r'.ln c')) hbk ((Keeps.refl _ _).setCell (by simp) _)
        have hcap := hO.cap.2
        have hsz3 : (W2.setCell ⟨g, j * 7 + 3, none⟩ (.slice A' r'.ln c')).heap.size = W2.heap.size := by simp [World.setCell]
        have hB2 := hB.size
        have F := htvw.flat
        clear HJ HG y3 q3 f3 hO HR h7 tv1 hB
        generalize W2.setCell ⟨g, j * 7 + 3, none⟩ (.slice A' r'.ln c') = W3 at *
        have hdr := (Below.refl W3.heap.size W3).drew
        have J3d := J3.below hdr
        have G3d := G3.below hdr J3.glt
        have L3d := L3.below hdr
        have tvd := htvw.bel J3d.be
        have h7d := h7w.below J3d.be hlt
        have p0 : W3.drew.cell? ⟨w.heap.size, 0, none⟩ = some (.map none) := by rw [cell_of_row _ _ 0 _ _ (0, 0) J3d.cop]; rfl
        have y6 := h7d.c6
        have HJ := Lib.hid J3d
        have HG := Lib.hid G3d
        have HL := Lib.hid L3d
        have HT := Lib.hid tvd
        have IA := Lib.hid (IH.out t' hmem)
        have hglt : g < W3.drew.heap.size := J3d.glt
        clear J3 J3d G3 G3d L3 L3d tvd h7d hdr
        go_region_with (first
          | (go_at_call 31; refine (IA.out W3.drew r'.B r'.m r'.d (by exact HT.out.args)).mono ?_; rintro e v ⟨B', m', d', rfl, hT, hv⟩; have J4 := Lib.hid (HJ.out.below hv); have G4 := Lib.hid (HG.out.below hv hglt); have L4 := Lib.hid (HL.out.below hv); have q6 := G4.out.c6; have f6 := J4.out.frozen (j * 7 + 6); clear p0 y6))
        all_goals
          go_wp2_with fail
          have hT' := hT.mono (S' := fun b => w.heap.size < b ∧ b ≠ g) (fun b h => ⟨by omega, by omega⟩)
          have kp := (Keeps.refl (fun b => w.heap.size < b ∧ b ≠ g) v).setCell (p := ⟨g, j * 7 + 6, none⟩) (by simp) (.slice B' m' d')
          have T5 := TVS.copied htvw (L4.out.keep hbk kp) hcap hbk (hT'.keep kp)
          have J5 := (J4.out.set (x := j * 7 + 6) (by omega) (.slice B' m' d')).step het T5 (G4.out.set6 B' m' d')
          exact ⟨⟨j + 1, by omega, by go_num, J5⟩, by simp [intOf]; omega⟩
      · have hd1 : decide ((j : Int) < (m : Int)) = false := by rw [decide_eq_false_iff_not]; omega
        have e : j = m := by omega
        subst e
        go_wp2
        go_ret
        exact ⟨_, _, _, rfl, J.all hlen hm, J.be⟩

set_option maxRecDepth 100000 in
theorem terms_args (t : Tm) : t.Ok → t.size ≤ 100000 → ∀ (w : World) (B : Option Addr) (m d : Nat), TVs w B m d t.args → Calls Try.prog 31 #[.agg #[.map none], .slice B m d] w (CpTs w t.args) := by
  induction t using Tm.ind with
  | h k n g l u s ks ih =>
    intro hok hsz w B m d hts
    have hks : (Tm.mk k n g l u s ks).args = ks := rfl
    have hl := Tm.size_args (Tm.mk k n g l u s ks)
    rw [← hks] at ih
    generalize Tm.mk k n g l u s ks = t at *
    exact terms_of t.args (fun x hx => ih x hx (Ok.kids hok hx) (Nat.le_trans (Tm.size_kid hx) hsz)) (fun x hx => Ok.kids hok hx) w B m d hts (by rw [← hts.len]; omega)

set_option maxRecDepth 100000 in
set_option maxHeartbeats 2000000 in
/-- fresh.Apart, of terms that are not too many. -/
theorem freshApart_any (w : World) (B : Option Addr) (m d : Nat) (ts : List Tm) (hts : TVs w B m d ts) (hok : ∀ t ∈ ts, t.Ok) (hsz : Tm.size.sizes ts ≤ 10000) (most : Int) (hm0 : 10000 < most) (hm1 : most ≤ 1000000000) :
    Calls Try.prog 19 #[.slice B m d, .int .i64 most] w (CpTs w ts) := by
  have hb0 := (Below.refl w.heap.size w).alloc (Nat.le_refl _) (.cells #[.map none] 54)
  have hl := Tm.sizes_len ts
  have hm : m ≤ 10000 := by rw [← hts.len]; omega
  have hx : (w.alloc (.cells #[.map none] 54)).cell? ⟨w.heap.size, 0, none⟩ = some (.map none) := by rw [World.cell?_alloc_at _ _ _ _ rfl]; rfl
  have hplt : w.heap.size < (w.alloc (.cells #[.map none] 54)).heap.size := by simp
  go_enter Try.func19, Try.ntmps19
  go_wp2_with fail
  have hts0 := hts.below hb0
  generalize w.alloc (.cells #[.map none] 54) = W at *
  refine (left_any W B m d ts hts0 most (by omega) hm1).mono ?_
  rintro e w1 ⟨rfl, hb1⟩
  have hx1 := (hb1.cell (p := ⟨w.heap.size, 0, none⟩) hplt).trans hx
  have b1 := hb0.trans (hb1.mono hb0.size)
  have e0 : decide ((most - (Tm.size.sizes ts : Int)) ≤ 0) = false := by rw [decide_eq_false_iff_not]; omega
  generalize (most - (Tm.size.sizes ts : Int)) = q at e0 ⊢
  have hts1 := hts0.below hb1
  clear hx hts0 hts
  go_wp2_with fail
  have hsz' : (Tm.mk 0 0 false [] 0 ⟨#[]⟩ ts).size ≤ 100000 := by rw [Tm.size]; omega
  have hok' : (Tm.mk 0 0 false [] 0 ⟨#[]⟩ ts).Ok := Tm.ok_mk.2 ⟨by simp, by simp [ByteArray.size], hok⟩
  refine (terms_args (Tm.mk 0 0 false [] 0 ⟨#[]⟩ ts) hok' hsz' w1 B m d hts1).mono ?_
  rintro e w2 ⟨B', m', d', rfl, hT, hb2⟩
  go_wp2
  go_ret
  exact ⟨B', m', d', rfl, hT.mono (fun b h => Nat.le_trans b1.size h), b1.trans (hb2.mono b1.size)⟩
end Go.Proofs.Ytmcfokeibecopaa

namespace Go.Proofs.Ytmcfokeibecopaa
open Go.RowKit

/-- The list of some terms. -/
def listT : List Tm → Tm
  | [] => tNil
  | t :: r => .mk 8 0 false [] 0 ⟨#[]⟩ [t, listT r]

set_option maxRecDepth 100000 in
theorem TVSs.lt {S : Nat → Prop} {w : World} {B : Option Addr} {m d : Nat} {ts : List Tm} (h : TVSs S w B m d ts) : TVSs (fun b => S b ∧ b < w.heap.size) w B m d ts := by
  obtain ⟨V, h1, h2⟩ := h.el
  exact ⟨h.len, h.md, h.dd, fun hm a e => ⟨h.on hm a e, h1.blk hm a e⟩, V, h1, fun i t e => (h2 i t e).lt⟩
set_option maxRecDepth 100000 in
theorem TVSs.get {S : Nat → Prop} {w : World} {B : Option Addr} {m d : Nat} {ts : List Tm} (h : TVSs S w B m d ts) (i : Nat) (hi : i < m) :
    ∃ b o r t, B = some ⟨b, o, none⟩ ∧ b < w.heap.size ∧ At7 w b (o + i * 7) r ∧ ts[i]? = some t ∧ TVS S w r t := by
  obtain ⟨V, h1, h2⟩ := h.el
  obtain ⟨b, o, e, hlt, hc⟩ := h1 (by omega)
  have hg : ts[i]? = some (ts[i]'(by rw [h.len]; exact hi)) := List.getElem?_eq_getElem (by rw [h.len]; exact hi)
  exact ⟨b, o, V i, _, e, hlt, hc i hi, hg, h2 i _ hg⟩

/-- What stands while a list is made: the result's variable, the list's, the heads. -/
structure LsI (w : World) (q : Nat) (B : Option Addr) (m d : Nat) (ts : List Tm) (R : TR) (t : Tm) (W : World) : Prop where
  bp : Box7 W w.heap.size zeroR
  bq : Box7 W q R
  pq : w.heap.size < q
  tv : TVS (fun b => b ≠ q ∧ w.heap.size < b) W R t
  hd : TVSs (fun b => b ≠ q ∧ w.heap.size < b) W B m d ts
  be : Below w.heap.size w W
set_option maxRecDepth 100000 in
theorem LsI.below {w : World} {q : Nat} {B : Option Addr} {m d : Nat} {ts : List Tm} {R : TR} {t : Tm} {W W' : World} (h : LsI w q B m d ts R t W) (hb : Below W.heap.size W W') : LsI w q B m d ts R t W' :=
  ⟨h.bp.below hb, h.bq.below hb, h.pq, h.tv.keep (hb.keeps _), h.hd.keep (hb.keeps _), h.be.trans (hb.mono h.be.size)⟩
set_option maxRecDepth 100000 in
/-- One more head. -/
theorem LsI.push {w : World} {q : Nat} {B : Option Addr} {m d : Nat} {ts : List Tm} {R : TR} {t : Tm} {W : World} (h : LsI w q B m d ts R t W) {r' : TR} {t' : Tm} (h' : TVS (fun b => b ≠ q ∧ w.heap.size < b) W r' t') :
    LsI w q B m d ts (mkR 8 0 0 ⟨#[]⟩ (some ⟨W.heap.size, 0, none⟩) 2 2) (.mk 8 0 false [] 0 ⟨#[]⟩ [t', t])
      ((put7 W q (mkR 8 0 0 ⟨#[]⟩ (some ⟨W.heap.size, 0, none⟩) 2 2)).alloc (.cells #[.int .i64 r'.k, .int .i64 r'.n, .bool r'.g, .slice r'.A r'.ln r'.lc, .int .u64 r'.u, .string r'.s, .slice r'.B r'.m r'.d, .int .i64 R.k, .int .i64 R.n, .bool R.g, .slice R.A R.ln R.lc, .int .u64 R.u, .string R.s, .slice R.B R.m R.d] 28)) := by
  have hpq := h.pq
  have hlt := h.bq.lt
  have hlp := h.bp.lt
  have kp := (Keeps.refl (fun b => b ≠ q ∧ w.heap.size < b) W).put7 (g := q) (by simp) (mkR 8 0 0 ⟨#[]⟩ (some ⟨W.heap.size, 0, none⟩) 2 2)
  have hsz := put7_size W q (mkR 8 0 0 ⟨#[]⟩ (some ⟨W.heap.size, 0, none⟩) 2 2)
  have T := TVSs.two (h'.keep kp) (h.tv.keep kp) (by rw [hsz]; exact ⟨by omega, by omega⟩)
  rw [hsz] at T
  have N := TVS.node (k := 8) (n := 0) (u := 0) (s := ⟨#[]⟩) T (by omega) (by omega) (by omega) (by omega) (by omega) (by omega) (by decide)
  exact ⟨(h.bp.put' (by omega) _).below ((Below.refl _ _).alloc (Nat.le_refl _) _), (h.bq.put _).below ((Below.refl _ _).alloc (Nat.le_refl _) _), h.pq, N, h.hd.keep (kp.alloc _), (h.be.put7 (by omega) _).alloc (by rw [hsz]; omega) _⟩

end Go.Proofs.Ytmcfokeibecopaa

namespace Go.Proofs.Ytmcfokeibecopaa
open Go.RowKit

def tOne : Tm := .mk 1 1 false [] 0 ⟨#[]⟩ []
def tAll : Tm := .mk 3 0 false [] 18446744073709551615 ⟨#[]⟩ []
def tList1 : Tm := .mk 8 0 false [] 0 ⟨#[]⟩ [tOne, tNil]
set_option maxRecDepth 100000 in
theorem intT_one : intT 1 = tOne := intT_small (by have := Lm.top_ge; omega) (by decide)
set_option maxRecDepth 100000 in
theorem listT_one : listT [tOne] = tList1 := rfl
set_option maxRecDepth 100000 in
theorem tList1_ok : tList1.Ok := by simp [tList1, tOne, tNil, Tm.Ok, Tm.Oks, ByteArray.size]
set_option maxRecDepth 100000 in
theorem tOne_ok : tOne.Ok := by simp [tOne, Tm.Ok, Tm.Oks, ByteArray.size]
set_option maxRecDepth 100000 in
theorem tNil_ok : tNil.Ok := by simp [tNil, Tm.Ok, Tm.Oks, ByteArray.size]
set_option maxRecDepth 100000 in
theorem tAll_ok : tAll.Ok := by simp [tAll, Tm.Ok, Tm.Oks, ByteArray.size]
set_option maxRecDepth 100000 in
theorem tNil_cap : tNil.cap = 1 := by simp [Tm.cap, tNil, Tm.wt]
set_option maxRecDepth 100000 in
theorem tList1_may : tList1.mayB = true := by
  have h1 : tList1.cap = 3 := by simp [Tm.cap, tList1, tOne, tNil, Tm.wt, Tm.wts]
  have h2 : tList1.formB = true := by simp [tList1, tOne, tNil, Tm.formB, Tm.formsB, Tm.alikeB, Tm.ment, Tm.boundB, Tm.kind, Tm.num, Tm.args, Tm.mag, Tm.neg, Tm.bits, Tm.bytes]
  rw [Tm.mayB, h1, h2]; rfl
set_option maxRecDepth 100000 in
theorem tAll_may : tAll.mayB = false := by
  have h2 : tAll.formB = false := by
    have : (cleanI 18446744073709551615 == 18446744073709551615) = false := by decide
    simp [tAll, Tm.formB, Tm.formsB, Tm.boundB, Tm.kind, Tm.bits]
    intro _ h
    rw [h] at this
    simp at this
  rw [Tm.mayB, h2]; simp
set_option maxRecDepth 100000 in
theorem intT_top : (intT 1152921504606846976).kind = 2 := by
  rw [intT_big (by have := Lm.top_ge; omega) (by decide)]; rfl

set_option maxRecDepth 100000 in
theorem field_kind (R : TR) (w : World) : (Instr.field 28 (.agg #[.int .i64 R.k, .int .i64 R.n, .bool R.g, .slice R.A R.ln R.lc, .int .u64 R.u, .string R.s, .slice R.B R.m R.d]) 0).run Try.prog w = .ok (.int .i64 R.k) w := by kernel_rfl

end Go.Proofs.Ytmcfokeibecopaa

namespace Go.Proofs.Ytmcfokeibecopaa
open Go.RowKit

set_option maxRecDepth 100000 in
theorem twoS {W v : World} {b o b' o' : Nat} {ra rb : TR} (hv : Below W.heap.size W v)
    (h : At7 W b o ra) (hlt : b < W.heap.size) (h' : At7 W b' o' rb) (hlt' : b' < W.heap.size) : v.cell? ⟨b, o, none⟩ = some (.int .i64 ra.k) ∧ v.cell? ⟨b, o + 1, none⟩ = some (.int .i64 ra.n) ∧ v.cell? ⟨b, o + 2, none⟩ = some (.bool ra.g) ∧ v.cell? ⟨b, o + 3, none⟩ = some (.slice ra.A ra.ln ra.lc) ∧ v.cell? ⟨b, o + 4, none⟩ = some (.int .u64 ra.u) ∧ v.cell? ⟨b, o + 5, none⟩ = some (.string ra.s) ∧ v.cell? ⟨b, o + 6, none⟩ = some (.slice ra.B ra.m ra.d) ∧ v.cell? ⟨b', o', none⟩ = some (.int .i64 rb.k) ∧ v.cell? ⟨b', o' + 1, none⟩ = some (.int .i64 rb.n) ∧ v.cell? ⟨b', o' + 2, none⟩ = some (.bool rb.g) ∧ v.cell? ⟨b', o' + 3, none⟩ = some (.slice rb.A rb.ln rb.lc) ∧ v.cell? ⟨b', o' + 4, none⟩ = some (.int .u64 rb.u) ∧ v.cell? ⟨b', o' + 5, none⟩ = some (.string rb.s) ∧ v.cell? ⟨b', o' + 6, none⟩ = some (.slice rb.B rb.m rb.d) :=
  seven (h.below hv hlt) (seven' (h'.below hv hlt'))

set_option maxRecDepth 100000 in
set_option maxRecDepth 100000 in
set_option maxHeartbeats 4000000 in
theorem sameTerms_of (ts : List Tm) (ih : ∀ t ∈ ts, ∀ (w : World) (r r' : TR), TV w r t → TV w r' t → Calls Try.prog 23 #[.agg #[.int .i64 r.k, .int .i64 r.n, .bool r.g, .slice r.A r.ln r.lc, .int .u64 r.u, .string r.s, .slice r.B r.m r.d], .agg #[.int .i64 r'.k, .int .i64 r'.n, .bool r'.g, .slice r'.A r'.ln r'.lc, .int .u64 r'.u, .string r'.s, .slice r'.B r'.m r'.d]] w fun e w' => e = .returned (.bool true) ∧ Below w.heap.size w w')
    (w : World) (B : Option Addr) (m d : Nat) (hts : TVs w B m d ts) (B' : Option Addr) (d' : Nat) (hts' : TVs w B' m d' ts) :
    Calls Try.prog 12 #[.slice B m d, .slice B' m d'] w fun e w' => e = .returned (.bool true) ∧ Below w.heap.size w w' := by
  have IH := Lib.hid ih
  clear ih
  have hml : m ≤ maxLen := Nat.le_trans hts.md hts.dd
  have hml' : (m : Int) ≤ 9223372036854775807 := by unfold maxLen at hml; omega
  go_enter Try.func12, Try.ntmps12
  go_wp2_with fail
  go_loopw [5] (fun i w' => ∃ j : Nat, j ≤ m ∧ i = .int .i64 (j : Int) ∧ Below w.heap.size w w') (fun i _ => m - (intOf i).toNat)
  case atStart => exact ⟨0, Nat.zero_le _, rfl, Below.refl _ _⟩
  case round =>
    obtain ⟨j, hj, rfl, hb⟩ := hrel
    by_cases hjm : j < m
    · have hd1 : decide ((j : Int) < (m : Int)) = true := by rw [decide_eq_true_iff]; omega
      obtain ⟨b, o, ra, t, e, hlt, h7, het, htv⟩ := (hts.below hb).get j hjm
      obtain ⟨b', o', rb, t', e', hlt', h7', het', htv'⟩ := (hts'.below hb).get j hjm
      rw [het] at het'
      cases het'
      subst e e'
      have hmem := List.mem_of_getElem? het
      have d0 := h7.c0; have d1 := h7.c1; have d2 := h7.c2; have d3 := h7.c3; have d4 := h7.c4; have d5 := h7.c5; have d6 := h7.c6; have c0 := h7'.c0; have c1 := h7'.c1; have c2 := h7'.c2; have c3 := h7'.c3; have c4 := h7'.c4; have c5 := h7'.c5; have c6 := h7'.c6
      have H7 := Lib.hid h7
      have H7' := Lib.hid h7'
      have HT := Lib.hid htv
      have HT' := Lib.hid htv'
      have IA := Lib.hid (IH.out t hmem)
      clear h7 h7' htv htv'
      go_wp2_with fail
      go_region_held3 (fun w' => w'.cell? ⟨b, o + j * 7, none⟩ = some (.int .i64 ra.k) ∧ w'.cell? ⟨b, o + j * 7 + 1, none⟩ = some (.int .i64 ra.n) ∧ w'.cell? ⟨b, o + j * 7 + 2, none⟩ = some (.bool ra.g) ∧ w'.cell? ⟨b, o + j * 7 + 3, none⟩ = some (.slice ra.A ra.ln ra.lc) ∧ w'.cell? ⟨b, o + j * 7 + 4, none⟩ = some (.int .u64 ra.u) ∧ w'.cell? ⟨b, o + j * 7 + 5, none⟩ = some (.string ra.s) ∧ w'.cell? ⟨b, o + j * 7 + 6, none⟩ = some (.slice ra.B ra.m ra.d) ∧ w'.cell? ⟨b', o' + j * 7, none⟩ = some (.int .i64 rb.k) ∧ w'.cell? ⟨b', o' + j * 7 + 1, none⟩ = some (.int .i64 rb.n) ∧ w'.cell? ⟨b', o' + j * 7 + 2, none⟩ = some (.bool rb.g) ∧ w'.cell? ⟨b', o' + j * 7 + 3, none⟩ = some (.slice rb.A rb.ln rb.lc) ∧ w'.cell? ⟨b', o' + j * 7 + 4, none⟩ = some (.int .u64 rb.u) ∧ w'.cell? ⟨b', o' + j * 7 + 5, none⟩ = some (.string rb.s) ∧ w'.cell? ⟨b', o' + j * 7 + 6, none⟩ = some (.slice rb.B rb.m rb.d))
        (first | exact ⟨d0, d1, d2, d3, d4, d5, d6, c0, c1, c2, c3, c4, c5, c6⟩ | exact KS.out)
        (first
          | (go_at_call 23; refine (IA.out wr.drew ra rb (by exact HT.out.bel (Below.refl _ _).drew) (by exact HT'.out.bel (Below.refl _ _).drew)).mono ?_; rintro e v ⟨rfl, hv⟩; have KS := Lib.hid (twoS (W := wr.drew) hv (H7.out.below (Below.refl _ _).drew hlt) hlt (H7'.out.below (Below.refl _ _).drew hlt') hlt'); have hB := Lib.hid ((hb.drew).trans (hv.mono hb.size)); clear hv))
      clear d0 d1 d2 d3 d4 d5 d6 c0 c1 c2 c3 c4 c5 c6
      go_wp2_with fail
      go_roundw
      case rel => exact ⟨j + 1, by omega, by go_num, hB.out⟩
      case measure => simp [intOf]; omega
    · have hd1 : decide ((j : Int) < (m : Int)) = false := by rw [decide_eq_false_iff_not]; omega
      go_wp2
      go_ret
      exact ⟨rfl, hb⟩

set_option maxRecDepth 100000 in
set_option maxRecDepth 100000 in
set_option maxHeartbeats 4000000 in
theorem sameTerm_raw (w : World) (k n : Int) (g : Bool) (A : Option Addr) (ln lc : Nat) (u : Int) (s : ByteArray) (B : Option Addr) (m d : Nat) (A' : Option Addr) (lc' : Nat) (B' : Option Addr) (d' : Nat) (l : List Nat) (ts : List Tm)
    (ih : ∀ t ∈ ts, ∀ (w : World) (r r' : TR), TV w r t → TV w r' t → Calls Try.prog 23 #[.agg #[.int .i64 r.k, .int .i64 r.n, .bool r.g, .slice r.A r.ln r.lc, .int .u64 r.u, .string r.s, .slice r.B r.m r.d], .agg #[.int .i64 r'.k, .int .i64 r'.n, .bool r'.g, .slice r'.A r'.ln r'.lc, .int .u64 r'.u, .string r'.s, .slice r'.B r'.m r'.d]] w fun e w' => e = .returned (.bool true) ∧ Below w.heap.size w w')
    (hl : Lim w A ln lc l) (hc : lc ≤ maxLen) (hl' : Lim w A' ln lc' l) (hc' : lc' ≤ maxLen) (hts : TVs w B m d ts) (hts' : TVs w B' m d' ts) :
    Calls Try.prog 23 #[.agg #[.int .i64 k, .int .i64 n, .bool g, .slice A ln lc, .int .u64 u, .string s, .slice B m d], .agg #[.int .i64 k, .int .i64 n, .bool g, .slice A' ln lc', .int .u64 u, .string s, .slice B' m d']] w fun e w' => e = .returned (.bool true) ∧ Below w.heap.size w w' := by
  have IH := Lib.hid ih
  clear ih
  have hb0 := ((Below.refl w.heap.size w).alloc (Nat.le_refl _) (.cells #[.int .i64 (TR.mk k n g A ln lc u s B m d).k, .int .i64 (TR.mk k n g A ln lc u s B m d).n, .bool (TR.mk k n g A ln lc u s B m d).g, .slice (TR.mk k n g A ln lc u s B m d).A (TR.mk k n g A ln lc u s B m d).ln (TR.mk k n g A ln lc u s B m d).lc, .int .u64 (TR.mk k n g A ln lc u s B m d).u, .string (TR.mk k n g A ln lc u s B m d).s, .slice (TR.mk k n g A ln lc u s B m d).B (TR.mk k n g A ln lc u s B m d).m (TR.mk k n g A ln lc u s B m d).d] 28)).alloc (by simp) (.cells #[.int .i64 (TR.mk k n g A' ln lc' u s B' m d').k, .int .i64 (TR.mk k n g A' ln lc' u s B' m d').n, .bool (TR.mk k n g A' ln lc' u s B' m d').g, .slice (TR.mk k n g A' ln lc' u s B' m d').A (TR.mk k n g A' ln lc' u s B' m d').ln (TR.mk k n g A' ln lc' u s B' m d').lc, .int .u64 (TR.mk k n g A' ln lc' u s B' m d').u, .string (TR.mk k n g A' ln lc' u s B' m d').s, .slice (TR.mk k n g A' ln lc' u s B' m d').B (TR.mk k n g A' ln lc' u s B' m d').m (TR.mk k n g A' ln lc' u s B' m d').d] 28)
  have hx := (Box7.new w (TR.mk k n g A ln lc u s B m d)).below ((Below.refl _ _).alloc (Nat.le_refl _) (.cells #[.int .i64 (TR.mk k n g A' ln lc' u s B' m d').k, .int .i64 (TR.mk k n g A' ln lc' u s B' m d').n, .bool (TR.mk k n g A' ln lc' u s B' m d').g, .slice (TR.mk k n g A' ln lc' u s B' m d').A (TR.mk k n g A' ln lc' u s B' m d').ln (TR.mk k n g A' ln lc' u s B' m d').lc, .int .u64 (TR.mk k n g A' ln lc' u s B' m d').u, .string (TR.mk k n g A' ln lc' u s B' m d').s, .slice (TR.mk k n g A' ln lc' u s B' m d').B (TR.mk k n g A' ln lc' u s B' m d').m (TR.mk k n g A' ln lc' u s B' m d').d] 28))
  have hy := Box7.new (w.alloc (.cells #[.int .i64 (TR.mk k n g A ln lc u s B m d).k, .int .i64 (TR.mk k n g A ln lc u s B m d).n, .bool (TR.mk k n g A ln lc u s B m d).g, .slice (TR.mk k n g A ln lc u s B m d).A (TR.mk k n g A ln lc u s B m d).ln (TR.mk k n g A ln lc u s B m d).lc, .int .u64 (TR.mk k n g A ln lc u s B m d).u, .string (TR.mk k n g A ln lc u s B m d).s, .slice (TR.mk k n g A ln lc u s B m d).B (TR.mk k n g A ln lc u s B m d).m (TR.mk k n g A ln lc u s B m d).d] 28)) (TR.mk k n g A' ln lc' u s B' m d')
  rw [World.size_alloc] at hy
  have hl0 := hl.below hb0
  have hl0' := hl'.below hb0
  have t0 := hts.below hb0
  have t0' := hts'.below hb0
  clear hl hl' hts hts'
  go_enter Try.func23, Try.ntmps23
  go_wp2_with fail
  generalize (w.alloc (.cells #[.int .i64 (TR.mk k n g A ln lc u s B m d).k, .int .i64 (TR.mk k n g A ln lc u s B m d).n, .bool (TR.mk k n g A ln lc u s B m d).g, .slice (TR.mk k n g A ln lc u s B m d).A (TR.mk k n g A ln lc u s B m d).ln (TR.mk k n g A ln lc u s B m d).lc, .int .u64 (TR.mk k n g A ln lc u s B m d).u, .string (TR.mk k n g A ln lc u s B m d).s, .slice (TR.mk k n g A ln lc u s B m d).B (TR.mk k n g A ln lc u s B m d).m (TR.mk k n g A ln lc u s B m d).d] 28)).alloc (.cells #[.int .i64 (TR.mk k n g A' ln lc' u s B' m d').k, .int .i64 (TR.mk k n g A' ln lc' u s B' m d').n, .bool (TR.mk k n g A' ln lc' u s B' m d').g, .slice (TR.mk k n g A' ln lc' u s B' m d').A (TR.mk k n g A' ln lc' u s B' m d').ln (TR.mk k n g A' ln lc' u s B' m d').lc, .int .u64 (TR.mk k n g A' ln lc' u s B' m d').u, .string (TR.mk k n g A' ln lc' u s B' m d').s, .slice (TR.mk k n g A' ln lc' u s B' m d').B (TR.mk k n g A' ln lc' u s B' m d').m (TR.mk k n g A' ln lc' u s B' m d').d] 28) = W at *
  refine (sameNum_any W g g A A' ln lc ln lc' l l hl0 hc hl0' hc').mono ?_
  rw [show sameB g g l l = true by simp [sameB]]
  rintro e w1 ⟨rfl, hb1⟩
  have hx1 := hx.below hb1
  have hy1 := hy.below hb1
  have y0 := hx1.at.c0; have y1 := hx1.at.c1; have y2 := hx1.at.c2; have y3 := hx1.at.c3; have y4 := hx1.at.c4; have y5 := hx1.at.c5; have y6 := hx1.at.c6; have x0 := hy1.at.c0; have x1 := hy1.at.c1; have x2 := hy1.at.c2; have x3 := hy1.at.c3; have x4 := hy1.at.c4; have x5 := hy1.at.c5; have x6 := hy1.at.c6
  go_wp2_with fail
  refine (sameTerms_of ts IH.out w1 B m d (t0.below hb1) B' d' (t0'.below hb1)).mono ?_
  rintro e w2 ⟨rfl, hb2⟩
  have b1 := hb0.trans (hb1.mono hb0.size)
  go_wp2
  go_ret
  exact ⟨rfl, b1.trans (hb2.mono b1.size)⟩
set_option maxRecDepth 100000 in
theorem sameTerm_eq (t : Tm) : ∀ (w : World) (r r' : TR), TV w r t → TV w r' t → Calls Try.prog 23 #[.agg #[.int .i64 r.k, .int .i64 r.n, .bool r.g, .slice r.A r.ln r.lc, .int .u64 r.u, .string r.s, .slice r.B r.m r.d], .agg #[.int .i64 r'.k, .int .i64 r'.n, .bool r'.g, .slice r'.A r'.ln r'.lc, .int .u64 r'.u, .string r'.s, .slice r'.B r'.m r'.d]] w fun e w' => e = .returned (.bool true) ∧ Below w.heap.size w w' := by
  induction t using Tm.ind with
  | h k n g l u s ks ih =>
    intro w r r' h h'
    have hks : (Tm.mk k n g l u s ks).args = ks := rfl
    rw [← hks] at ih
    generalize Tm.mk k n g l u s ks = t at *
    have e1 := h.kind.symm.trans h'.kind
    have e2 := h.num.symm.trans h'.num
    have e3 := h.neg.symm.trans h'.neg
    have e4 := h.bits.symm.trans h'.bits
    have e5 := h.bytes.symm.trans h'.bytes
    have e6 := h.len.symm.trans h'.len
    have e7 := h.magLen.symm.trans h'.magLen
    have h1 := h.flat.lim
    have h2 := h.flat.cap
    have h3 := h'.flat.lim
    have h4 := h'.flat.cap
    have h5 := h.args
    have h6 := h'.args
    rw [← e1, ← e2, ← e3, ← e4, ← e5, ← e6, ← e7]
    rw [← e7] at h3
    rw [← e6] at h6
    exact sameTerm_raw w r.k r.n r.g r.A r.ln r.lc r.u r.s r.B r.m r.d r'.A r'.lc r'.B r'.d t.mag t.args ih h1 h2 h3 h4 h5 h6
end Go.Proofs.Ytmcfokeibecopaa

namespace Go.Proofs.Ytmcfokeibecopaa
open Go.RowKit

set_option maxRecDepth 100000 in
theorem ofT_ok {g : Bool} {l : List Nat} (h : l.length ≤ 40) : (ofT g l).Ok := by
  unfold ofT
  split
  · simp [Tm.Ok, Tm.Oks, ByteArray.size]
  split
  · simp [Tm.Ok, Tm.Oks, ByteArray.size]; omega
  · simp [Tm.Ok, Tm.Oks, ByteArray.size]
set_option maxRecDepth 100000 in
theorem ofT_may {g : Bool} {l : List Nat} (h : mayB g l = true) : (ofT g l).mayB = true := by
  have hl := mayB_len h
  unfold ofT
  cases hs : smOk g l with
  | true =>
    rw [if_pos rfl]
    have hz : smallB (smZ g l) = true := by
      unfold smZ
      unfold smOk at hs
      rw [if_pos hs]
      simp only [Bool.and_eq_true] at hs
      exact hs.2
    generalize smZ g l = z at hz
    unfold smallB at hz
    have h1 : (Tm.mk 1 z false [] 0 ⟨#[]⟩ []).cap = 1 := by simp [Tm.cap, Tm.wt]
    have h2 : (Tm.mk 1 z false [] 0 ⟨#[]⟩ []).formB = true := by
      simp only [Bool.and_eq_true, decide_eq_true_eq] at hz
      simp [Tm.formB, Tm.formsB, Tm.alikeB, Tm.ment, Tm.boundB, Tm.kind, Tm.num, Tm.args, Tm.mag, Tm.neg, Tm.bits, Tm.bytes, hz]
    rw [Tm.mayB, h1, h2]; rfl
  | false =>
    rw [if_neg (by decide), if_pos h]
    have h1 : (Tm.mk 2 0 g l 0 ⟨#[]⟩ []).cap ≤ 300 := by simp [Tm.cap, Tm.wt]; omega
    have h2 : (Tm.mk 2 0 g l 0 ⟨#[]⟩ []).formB = true := by
      simp [Tm.formB, Tm.formsB, Tm.alikeB, Tm.ment, Tm.boundB, Tm.kind, Tm.num, Tm.args, Tm.mag, Tm.neg, Tm.bits, Tm.bytes, h, hs]
    rw [Tm.mayB, h2, decide_eq_true h1]; rfl

/-- What Num leaves, of the term of an integer that may be. -/
def NumP (w : World) (g : Bool) (l : List Nat) (e : Ending) (w' : World) : Prop :=
  ∃ A c, e = .returned (.tuple #[.agg #[.bool g, .slice A l.length c], .bool true]) ∧ Own w' w.heap.size A l.length c l ∧ Below w.heap.size w w'

set_option maxRecDepth 100000 in
theorem Box.put2 {w : World} {g : Nat} {x y x' y' : Value} (h : Box w g x y) : Box ((w.setCell ⟨g, 0, none⟩ x').setCell ⟨g, 1, none⟩ y') g x' y' := by
  unfold Box at h ⊢; simp [World.setCell, Array.getElem?_modify, h]

set_option maxRecDepth 100000 in
set_option maxHeartbeats 2000000 in
/-- OverTerm of a term without arguments: it changes its limbs alone. -/
theorem overTerm_any (w : World) (r : TR) (base : Nat) (l : List Nat) (ho : Own w base r.A r.ln r.lc l) (hm : r.m = 0) (hn : r.ln ≤ 1000) :
    Calls Try.prog 14 #[.agg #[.int .i64 r.k, .int .i64 r.n, .bool r.g, .slice r.A r.ln r.lc, .int .u64 r.u, .string r.s, .slice r.B r.m r.d]] w fun e w' => e = .returned (.tuple #[]) ∧ w.grownBy w' (r.A.map (·.block)) := by
  have b0 := (Below.refl w.heap.size w).alloc (Nat.le_refl _) (.cells #[.int .i64 r.k, .int .i64 r.n, .bool r.g, .slice r.A r.ln r.lc, .int .u64 r.u, .string r.s, .slice r.B r.m r.d] 28)
  have hx := Box7.new w r
  have hO := ho.below b0
  have HM := Lib.hid hm
  have hg0 : w.grownBy (w.alloc (.cells #[.int .i64 r.k, .int .i64 r.n, .bool r.g, .slice r.A r.ln r.lc, .int .u64 r.u, .string r.s, .slice r.B r.m r.d] 28)) (r.A.map (·.block)) := World.grownBy_alloc _ _ _
  have hlt : ∀ k, r.A.map (·.block) = some k → k < w.heap.size := fun k hk => by
    cases hA : r.A with
    | none => rw [hA] at hk; cases hk
    | some a => rw [hA] at hk; cases hk; rw [hA] at ho; exact (World.ownsRow.lt ho.2.2 a.block rfl).2
  clear hm ho
  go_enter Try.func14, Try.ntmps14
  go_wp2_with fail
  generalize w.alloc (.cells #[.int .i64 r.k, .int .i64 r.n, .bool r.g, .slice r.A r.ln r.lc, .int .u64 r.u, .string r.s, .slice r.B r.m r.d] 28) = W at *
  refine (over_ow W ⟨false, r.A, r.ln, r.lc, 0⟩ (own_ow hO).1 hn).mono ?_
  rintro e w1 ⟨rfl, hg1⟩
  have hg1' : W.grownBy w1 (r.A.map (·.block)) := hg1
  have hx1 : Box7 w1 w.heap.size r := (hg1'.block _ hx.lt (fun e => by have := hlt _ e.symm; omega)).trans hx
  have y6 := hx1.at.c6
  rw [HM.out] at y6
  go_wp2_with fail
  go_loop [2] (fun i => i = .int .i64 0) (fun _ => 0)
  case atStart => rfl
  case round =>
    subst hrel
    go_wp2
    go_end0
    exact ⟨rfl, grown_tr hg0 hg1'⟩
end Go.Proofs.Ytmcfokeibecopaa
