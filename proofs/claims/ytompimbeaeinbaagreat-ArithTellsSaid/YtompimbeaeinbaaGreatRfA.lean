/-
  THE REFERENCE's float, whole (chapter 6).
-/
import Derived.Test.YtompimbeaeinbaaGreatArK
import Derived.Test.YtompimbeaeinbaaGreatTmZC
namespace Go.Proofs.YtompimbeaeinbaaGreat
open Go.RowKit

set_option maxRecDepth 100000 in
theorem refNum_z (w : World) (r : TR) (t : Tm) (z : Int) (h : TV w r t) (ho : t.Ok) (hz : t.intO = some z) : Calls Tryz.prog 16 #[.agg #[.int .i64 r.k, .int .i64 r.n, .bool r.g, .slice r.A r.ln r.lc, .int .u64 r.u, .string r.s, .slice r.B r.m r.d]] w (NmP w z) := by
  unfold Tm.intO at hz
  split at hz
  next hm =>
    split at hz
    next hk => obtain rfl := Option.some.inj hz; exact refNum_int w r t h ho hm hk
    next =>
      split at hz
      next hk =>
        obtain rfl := Option.some.inj hz
        refine (refNum_big w r t h ho hm hk).mono ?_
        rintro e w' ⟨A, c, rfl, hO, hb⟩
        exact ⟨_, _, _, _, rfl, nm_of_raw ⟨hO.lim, hO.cap.2⟩ (may_mag hm hk), hb⟩
      next => simp at hz
  next => simp at hz
set_option maxRecDepth 100000 in
theorem refNum_none (w : World) (r : TR) (t : Tm) (h : TV w r t) (ho : t.Ok) (hz : t.intO = none) : Calls Tryz.prog 16 #[.agg #[.int .i64 r.k, .int .i64 r.n, .bool r.g, .slice r.A r.ln r.lc, .int .u64 r.u, .string r.s, .slice r.B r.m r.d]] w (NoP w) := by
  refine refNum_no w r t h ho ?_
  unfold Tm.intO at hz
  split at hz
  next hm =>
    split at hz
    next => simp at hz
    next hk =>
      split at hz
      next => simp at hz
      next hk' => exact .inr ⟨hk, hk'⟩
  next hm => exact .inl (by simpa using hm)

set_option maxRecDepth 100000 in
set_option maxHeartbeats 4000000 in
theorem refFloat_yes (w : World) (r : TR) (t : Tm) (x : Int) (h : TV w r t) (ho : t.Ok) (hx : t.fltO = some x) : Calls Tryz.prog 15 #[.agg #[.int .i64 r.k, .int .i64 r.n, .bool r.g, .slice r.A r.ln r.lc, .int .u64 r.u, .string r.s, .slice r.B r.m r.d]] w fun e w' => e = .returned (.tuple #[.int .u64 x, .bool true]) ∧ Below w.heap.size w w' := by
  have I := BxI.new h
  have hm : t.mayB = true := by
    unfold Tm.fltO at hx
    split at hx
    next hm => exact hm.1
    next =>
      cases hb : t.mayB with
      | true => rfl
      | false => rw [Tm.intO_no hb] at hx; simp at hx
  go_enter Tryz.func15, Tryz.ntmps15
  go_wp2_with fail
  generalize w.alloc (.cells #[.int .i64 r.k, .int .i64 r.n, .bool r.g, .slice r.A r.ln r.lc, .int .u64 r.u, .string r.s, .slice r.B r.m r.d] 28) = W at *
  refine (refMayT_any W r t I.tv ho).mono ?_
  rw [hm]
  rintro e w1 ⟨rfl, hb1⟩
  have I1 := I.below hb1
  clear I
  unfold Tm.fltO at hx
  by_cases hk : t.kind = 3
  · rw [if_pos ⟨hm, hk⟩] at hx
    obtain rfl := Option.some.inj hx
    rw [h.kind] at hk
    have e3 : (r.k == 3) = true := by rw [hk]; rfl
    clear hk hx hm
    have y0 := I1.bx.at.c0; have y1 := I1.bx.at.c1; have y2 := I1.bx.at.c2; have y3 := I1.bx.at.c3; have y4 := I1.bx.at.c4; have y5 := I1.bx.at.c5; have y6 := I1.bx.at.c6
    go_wp2
    exact bodyPost_ret (v := .tuple #[.int .u64 r.u, .bool true]) (by simp [results, Tryz.results15, go_sem]) rfl ⟨by rw [h.bits], I1.be⟩
  · rw [if_neg (fun h => hk h.2)] at hx
    cases hz : t.intO with
    | none => rw [hz] at hx; simp at hx
    | some z =>
      rw [hz] at hx
      obtain rfl := Option.some.inj hx
      rw [h.kind] at hk
      have e3 : (r.k == 3) = false := beq_eq_false_iff_ne.2 hk
      clear hk hx hm
      have y0 := I1.bx.at.c0; have y1 := I1.bx.at.c1; have y2 := I1.bx.at.c2; have y3 := I1.bx.at.c3; have y4 := I1.bx.at.c4; have y5 := I1.bx.at.c5; have y6 := I1.bx.at.c6
      go_wp2_with fail
      refine (refNum_z w1 r t z I1.tv ho hz).mono ?_
      rintro e w2 ⟨s, A, n, c, rfl, hN, hb2⟩
      have I2 := I1.below hb2
      have al := (Below.refl w2.heap.size w2).alloc (Nat.le_refl _) (.cells #[.bool s, .slice A n c] 24)
      have N2 := hN.below al
      have I3 := I2.below al
      clear y0 y1 y2 y3 y4 y5 y6 I1 I2 hN al
      go_wp2_with fail
      generalize w2.alloc (.cells #[.bool s, .slice A n c] 24) = W3 at *
      refine (refOfF_any W3 s A n c _ N2.1).mono ?_
      rintro e w4 ⟨rfl, hb4⟩
      have I4 := I3.below hb4
      go_wp2
      exact bodyPost_ret (v := .tuple #[.int .u64 (ofR s (Lm.digits z.natAbs) : Nat), .bool true]) (by simp [results, Tryz.results15, go_sem]) rfl ⟨by rw [N2.2.out]; rfl, I4.be⟩

set_option maxRecDepth 100000 in
set_option maxHeartbeats 4000000 in
theorem refFloat_no (w : World) (r : TR) (t : Tm) (h : TV w r t) (ho : t.Ok) (hx : t.fltO = none) : Calls Tryz.prog 15 #[.agg #[.int .i64 r.k, .int .i64 r.n, .bool r.g, .slice r.A r.ln r.lc, .int .u64 r.u, .string r.s, .slice r.B r.m r.d]] w fun e w' => (∃ x : Int, e = .returned (.tuple #[.int .u64 x, .bool false])) ∧ Below w.heap.size w w' := by
  have I := BxI.new h
  go_enter Tryz.func15, Tryz.ntmps15
  go_wp2_with fail
  generalize w.alloc (.cells #[.int .i64 r.k, .int .i64 r.n, .bool r.g, .slice r.A r.ln r.lc, .int .u64 r.u, .string r.s, .slice r.B r.m r.d] 28) = W at *
  refine (refMayT_any W r t I.tv ho).mono ?_
  cases hm : t.mayB with
  | false =>
    rintro e w1 ⟨rfl, hb1⟩
    have I1 := I.below hb1
    clear I
    go_wp2
    exact bodyPost_ret (v := .tuple #[.int .u64 0, .bool false]) (by simp [results, Tryz.results15, go_sem]) rfl ⟨⟨_, rfl⟩, I1.be⟩
  | true =>
    rintro e w1 ⟨rfl, hb1⟩
    have I1 := I.below hb1
    clear I
    unfold Tm.fltO at hx
    have hk : ¬ t.kind = 3 := fun e => by rw [if_pos ⟨hm, e⟩] at hx; simp at hx
    rw [if_neg (fun h => hk h.2)] at hx
    have hz : t.intO = none := by
      cases hz : t.intO with
      | none => rfl
      | some z => rw [hz] at hx; simp at hx
    rw [h.kind] at hk
    have e3 : (r.k == 3) = false := beq_eq_false_iff_ne.2 hk
    clear hk hx hm
    have y0 := I1.bx.at.c0; have y1 := I1.bx.at.c1; have y2 := I1.bx.at.c2; have y3 := I1.bx.at.c3; have y4 := I1.bx.at.c4; have y5 := I1.bx.at.c5; have y6 := I1.bx.at.c6
    go_wp2_with fail
    refine (refNum_none w1 r t I1.tv ho hz).mono ?_
    rintro e w2 ⟨rfl, hb2⟩
    have I2 := I1.below hb2
    have al := (Below.refl w2.heap.size w2).alloc (Nat.le_refl _) (.cells #[.bool false, .slice none 0 0] 24)
    have I3 := I2.below al
    clear y0 y1 y2 y3 y4 y5 y6 I1 I2 al
    go_wp2_with fail
    generalize w2.alloc (.cells #[.bool false, .slice none 0 0] 24) = W3 at *
    refine (refOfF_any W3 false none 0 0 [] ⟨Lim.nil _ _ _, Nat.zero_le _⟩).mono ?_
    rintro e w4 ⟨rfl, hb4⟩
    have I4 := I3.below hb4
    go_wp2
    exact bodyPost_ret (v := .tuple #[.int .u64 (ofR false [] : Nat), .bool false]) (by simp [results, Tryz.results15, go_sem]) rfl ⟨⟨_, rfl⟩, I4.be⟩

/-- The reference leaves this term and this reason. -/
def RfP (w : World) (o : Option Tm) (e : Ending) (w' : World) : Prop := ∃ R : TR, e = .returned (.tuple #[.agg #[.int .i64 R.k, .int .i64 R.n, .bool R.g, .slice R.A R.ln R.lc, .int .u64 R.u, .string R.s, .slice R.B R.m R.d], .int .i64 (rsO o)]) ∧ TV w' R (mdO o) ∧ Own w' w.heap.size R.A R.ln R.lc (mdO o).mag ∧ R.m = 0 ∧ Below w.heap.size w w'
set_option maxRecDepth 100000 in
set_option maxHeartbeats 4000000 in
theorem refWh_add_no (w : World) (s s' : Bool) (A B : Option Addr) (n c m d : Nat) (x y : Int) (h : Nm w s A n c x) (h' : Nm w s' B m d y) (ht : x.natAbs < Lm.top) (ht' : y.natAbs < Lm.top) (hf : fits (x + y) = false) :
    Calls Tryz.prog 17 #[.int .i64 5, .agg #[.bool s, .slice A n c], .agg #[.bool s', .slice B m d]] w (RfP w none) := by
  have b0 := ((((Below.refl w.heap.size w).alloc (Nat.le_refl _) (.cells #[.bool s, .slice A n c] 24)).alloc (by simp) (.cells #[.bool s', .slice B m d] 24)).alloc (by simp; omega) (.cells #[.int .i64 zeroR.k, .int .i64 zeroR.n, .bool zeroR.g, .slice zeroR.A zeroR.ln zeroR.lc, .int .u64 zeroR.u, .string zeroR.s, .slice zeroR.B zeroR.m zeroR.d] 28)).alloc (by simp; omega) (.cells #[.bool false, .slice none 0 0] 24)
  have hb := Box7.new ((w.alloc (.cells #[.bool s, .slice A n c] 24)).alloc (.cells #[.bool s', .slice B m d] 24)) zeroR
  have hx := hb.below ((Below.refl _ _).alloc (Nat.le_refl _) (.cells #[.bool false, .slice none 0 0] 24))
  have hy := Box.new (((w.alloc (.cells #[.bool s, .slice A n c] 24)).alloc (.cells #[.bool s', .slice B m d] 24)).alloc (.cells #[.int .i64 zeroR.k, .int .i64 zeroR.n, .bool zeroR.g, .slice zeroR.A zeroR.ln zeroR.lc, .int .u64 zeroR.u, .string zeroR.s, .slice zeroR.B zeroR.m zeroR.d] 28)) (.bool false) (.slice none 0 0)
  simp only [World.size_alloc] at hx hy
  have hW : ((((w.alloc (.cells #[.bool s, .slice A n c] 24)).alloc (.cells #[.bool s', .slice B m d] 24)).alloc (.cells #[.int .i64 zeroR.k, .int .i64 zeroR.n, .bool zeroR.g, .slice zeroR.A zeroR.ln zeroR.lc, .int .u64 zeroR.u, .string zeroR.s, .slice zeroR.B zeroR.m zeroR.d] 28)).alloc (.cells #[.bool false, .slice none 0 0] 24)).heap.size = w.heap.size + 4 := by simp
  clear hb
  go_enter Tryz.func17, Tryz.ntmps17
  go_wp2_with fail
  generalize ((((w.alloc (.cells #[.bool s, .slice A n c] 24)).alloc (.cells #[.bool s', .slice B m d] 24)).alloc (.cells #[.int .i64 zeroR.k, .int .i64 zeroR.n, .bool zeroR.g, .slice zeroR.A zeroR.ln zeroR.lc, .int .u64 zeroR.u, .string zeroR.s, .slice zeroR.B zeroR.m zeroR.d] 28)).alloc (.cells #[.bool false, .slice none 0 0] 24)) = W at *
  have QQ : Calls Tryz.prog 34 #[.agg #[.bool s, .slice A n c], .agg #[.bool s', .slice B m d]] W (NumPost W (clip (x + y)) (fits (x + y))) := by
    have := refAdd_yes W s s' A B n c m d _ _ (h.below b0).1 (h'.below b0).1 (h.may ht) (h'.may ht')
    rwa [h.eqZ, h'.eqZ] at this
  refine QQ.mono ?_
  clear QQ
  rw [hf]
  rintro e w1 ⟨V, rfl, ⟨s1, A1, n1, c1, rfl, hs, hO⟩, hb1⟩
  have hx1 := hx.below hb1
  have hy1 := hy.below' hb1
  have b1 := b0.trans (hb1.mono b0.size)
  have z0 := hy1.c0
  have z1 := hy1.c1
  have f0 := hy1.f0
  have f1 := hy1.f1
  have g0 := hx1.frozen 0; have g1 := hx1.frozen 1; have g2 := hx1.frozen 2; have g3 := hx1.frozen 3; have g4 := hx1.frozen 4; have g5 := hx1.frozen 5; have g6 := hx1.frozen 6; have q0 := hx1.at.c0; have q1 := hx1.at.c1; have q2 := hx1.at.c2; have q3 := hx1.at.c3; have q4 := hx1.at.c4; have q5 := hx1.at.c5; have q6 := hx1.at.c6
  have ne : w.heap.size + 1 + 1 + 1 ≠ w.heap.size + 1 + 1 := by omega
  clear hx hy b0
  go_wp2
  have C := (((hx1.setO (g' := w.heap.size + 1 + 1 + 1) ne 0 (.bool s1)).setO (g' := w.heap.size + 1 + 1 + 1) ne 1 (.slice A1 n1 c1)).put zeroR).at
  have hB5 := ((b1.setCell (p := ⟨w.heap.size + 1 + 1 + 1, 0, none⟩) (by simp only; omega) (.bool s1)).setCell (p := ⟨w.heap.size + 1 + 1 + 1, 1, none⟩) (by simp only; omega) (.slice A1 n1 c1)).put7 (g := w.heap.size + 1 + 1) (by omega) zeroR
  have y0 := C.c0; have y1 := C.c1; have y2 := C.c2; have y3 := C.c3; have y4 := C.c4; have y5 := C.c5; have y6 := C.c6
  clear C g0 g1 g2 g3 g4 g5 g6 q0 q1 q2 q3 q4 q5 q6 z0 z1 f0 f1
  change bodyPost _ _ _ _ _ (put7 ((w1.setCell ⟨w.heap.size + 1 + 1 + 1, 0, none⟩ (.bool s1)).setCell ⟨w.heap.size + 1 + 1 + 1, 1, none⟩ (.slice A1 n1 c1)) (w.heap.size + 1 + 1) zeroR)
  generalize put7 ((w1.setCell ⟨w.heap.size + 1 + 1 + 1, 0, none⟩ (.bool s1)).setCell ⟨w.heap.size + 1 + 1 + 1, 1, none⟩ (.slice A1 n1 c1)) (w.heap.size + 1 + 1) zeroR = W5 at *
  exact bodyPost_ret (v := .tuple #[.agg #[.int .i64 zeroR.k, .int .i64 zeroR.n, .bool zeroR.g, .slice zeroR.A zeroR.ln zeroR.lc, .int .u64 zeroR.u, .string zeroR.s, .slice zeroR.B zeroR.m zeroR.d], .int .i64 1]) (by simp [results, Tryz.results17, go_sem, y0, y1, y2, y3, y4, y5, y6]) rfl ⟨zeroR, rfl, TV.zero, Own.nil _ _, rfl, hB5⟩
set_option maxRecDepth 100000 in
set_option maxHeartbeats 4000000 in
theorem refWh_add (w : World) (s s' : Bool) (A B : Option Addr) (n c m d : Nat) (x y : Int) (h : Nm w s A n c x) (h' : Nm w s' B m d y) (ht : x.natAbs < Lm.top) (ht' : y.natAbs < Lm.top) (hf : fits (x + y) = true) :
    Calls Tryz.prog 17 #[.int .i64 5, .agg #[.bool s, .slice A n c], .agg #[.bool s', .slice B m d]] w (RfP w (some (intT (x + y)))) := by
  have htop : (x + y).natAbs < Lm.top := of_decide_eq_true hf
  have hlen := (Lm.top_iff _).2 htop
  have b0 := ((((Below.refl w.heap.size w).alloc (Nat.le_refl _) (.cells #[.bool s, .slice A n c] 24)).alloc (by simp) (.cells #[.bool s', .slice B m d] 24)).alloc (by simp; omega) (.cells #[.int .i64 zeroR.k, .int .i64 zeroR.n, .bool zeroR.g, .slice zeroR.A zeroR.ln zeroR.lc, .int .u64 zeroR.u, .string zeroR.s, .slice zeroR.B zeroR.m zeroR.d] 28)).alloc (by simp; omega) (.cells #[.bool false, .slice none 0 0] 24)
  have hb := Box7.new ((w.alloc (.cells #[.bool s, .slice A n c] 24)).alloc (.cells #[.bool s', .slice B m d] 24)) zeroR
  have hx := hb.below ((Below.refl _ _).alloc (Nat.le_refl _) (.cells #[.bool false, .slice none 0 0] 24))
  have hy := Box.new (((w.alloc (.cells #[.bool s, .slice A n c] 24)).alloc (.cells #[.bool s', .slice B m d] 24)).alloc (.cells #[.int .i64 zeroR.k, .int .i64 zeroR.n, .bool zeroR.g, .slice zeroR.A zeroR.ln zeroR.lc, .int .u64 zeroR.u, .string zeroR.s, .slice zeroR.B zeroR.m zeroR.d] 28)) (.bool false) (.slice none 0 0)
  simp only [World.size_alloc] at hx hy
  have hW : ((((w.alloc (.cells #[.bool s, .slice A n c] 24)).alloc (.cells #[.bool s', .slice B m d] 24)).alloc (.cells #[.int .i64 zeroR.k, .int .i64 zeroR.n, .bool zeroR.g, .slice zeroR.A zeroR.ln zeroR.lc, .int .u64 zeroR.u, .string zeroR.s, .slice zeroR.B zeroR.m zeroR.d] 28)).alloc (.cells #[.bool false, .slice none 0 0] 24)).heap.size = w.heap.size + 4 := by simp
  clear hb
  go_enter Tryz.func17, Tryz.ntmps17
  go_wp2_with fail
  generalize ((((w.alloc (.cells #[.bool s, .slice A n c] 24)).alloc (.cells #[.bool s', .slice B m d] 24)).alloc (.cells #[.int .i64 zeroR.k, .int .i64 zeroR.n, .bool zeroR.g, .slice zeroR.A zeroR.ln zeroR.lc, .int .u64 zeroR.u, .string zeroR.s, .slice zeroR.B zeroR.m zeroR.d] 28)).alloc (.cells #[.bool false, .slice none 0 0] 24)) = W at *
  have QQ : Calls Tryz.prog 34 #[.agg #[.bool s, .slice A n c], .agg #[.bool s', .slice B m d]] W (NumPost W (clip (x + y)) (fits (x + y))) := by
    have := refAdd_yes W s s' A B n c m d _ _ (h.below b0).1 (h'.below b0).1 (h.may ht) (h'.may ht')
    rwa [h.eqZ, h'.eqZ] at this
  refine QQ.mono ?_
  clear QQ
  rw [hf, clip_fits hf]
  rintro e w1 ⟨V, rfl, ⟨s1, A1, n1, c1, rfl, hs, hO⟩, hb1⟩
  have hx1 := hx.below hb1
  have hy1 := hy.below' hb1
  have b1 := b0.trans (hb1.mono b0.size)
  have hsz1 : w.heap.size + 4 ≤ w1.heap.size := by rw [← hW]; exact hb1.size
  have z0 := hy1.c0
  have z1 := hy1.c1
  have f0 := hy1.f0
  have f1 := hy1.f1
  have hn : n1 ≤ 1000 := by rw [← hO.2.1]; omega
  clear hx hy b0
  go_wp2_with fail
  have hO2 := (hO.setO (p := ⟨w.heap.size + 1 + 1 + 1, 0, none⟩) (by simp only; omega) (.bool s1)).setO (p := ⟨w.heap.size + 1 + 1 + 1, 1, none⟩) (by simp only; omega) (.slice A1 n1 c1)
  have hx2 := hx1.setO (g' := w.heap.size + 1 + 1 + 1) (by omega) 0 (.bool s1)
  have hx3 := hx2.setO (g' := w.heap.size + 1 + 1 + 1) (by omega) 1 (.slice A1 n1 c1)
  have b2 := (b1.setCell (p := ⟨w.heap.size + 1 + 1 + 1, 0, none⟩) (by simp only; omega) (.bool s1)).setCell (p := ⟨w.heap.size + 1 + 1 + 1, 1, none⟩) (by simp only; omega) (.slice A1 n1 c1)
  have hsz2 : ((w1.setCell ⟨w.heap.size + 1 + 1 + 1, 0, none⟩ (.bool s1)).setCell ⟨w.heap.size + 1 + 1 + 1, 1, none⟩ (.slice A1 n1 c1)).heap.size = w1.heap.size := by simp
  clear z0 z1 f0 f1 hx2
  generalize (w1.setCell ⟨w.heap.size + 1 + 1 + 1, 0, none⟩ (.bool s1)).setCell ⟨w.heap.size + 1 + 1 + 1, 1, none⟩ (.slice A1 n1 c1) = W2 at *
  refine (refOfNum_any W2 s1 A1 n1 c1 _ ⟨hO2.lim, hO2.cap.2⟩ hn).mono ?_
  rintro e w3 ⟨R, rfl, hT, hO3, hm0, hb3⟩
  rw [hs.out] at hT hO3
  have hT' : TV w3 R (intT (x + y)) := hT
  have hO4 : Own w3 W2.heap.size R.A R.ln R.lc (intT (x + y)).mag := hO3
  have tS := Lib.hid (show TVS (fun b => w.heap.size + 4 ≤ b) w3 R (intT (x + y)) from TVS.leafy hT' (fun _ a e => by rw [e] at hO4; have := (World.ownsRow.lt hO4.2.2 a.block rfl).1; omega) hm0)
  have HO := Lib.hid hO4
  have HM := Lib.hid hm0
  clear hm0
  have hx4 := hx3.below hb3
  have b3 := b2.trans (hb3.mono b2.size)
  have hsz3 : w.heap.size + 4 ≤ w3.heap.size := by have := hb3.size; omega
  generalize mayB s1 (Lm.digits (x + y).natAbs) = ok
  clear hT hT' hO3 hO4 hx1 hx3 hy1 hO2 hO hs
  have f0 := hx4.frozen 0; have f1 := hx4.frozen 1; have f2 := hx4.frozen 2; have f3 := hx4.frozen 3; have f4 := hx4.frozen 4; have f5 := hx4.frozen 5; have f6 := hx4.frozen 6; have q0 := hx4.at.c0; have q1 := hx4.at.c1; have q2 := hx4.at.c2; have q3 := hx4.at.c3; have q4 := hx4.at.c4; have q5 := hx4.at.c5; have q6 := hx4.at.c6
  have hlt : w.heap.size + 1 + 1 < w3.heap.size := by omega
  go_wp2
  have C := ((hx4.put R).below ((Below.refl _ _).alloc (Nat.le_refl _) (.cells #[.int .i64 R.k, .int .i64 R.n, .bool R.g, .slice R.A R.ln R.lc, .int .u64 R.u, .string R.s, .slice R.B R.m R.d] 28))).at
  have hB5 := (b3.put7 (g := w.heap.size + 1 + 1) (by omega) R).alloc (by rw [put7_size]; omega) (.cells #[.int .i64 R.k, .int .i64 R.n, .bool R.g, .slice R.A R.ln R.lc, .int .u64 R.u, .string R.s, .slice R.B R.m R.d] 28)
  have hT5 := (tS.out.keep (((Keeps.refl _ w3).put7 (g := w.heap.size + 1 + 1) (by omega) R).alloc (.cells #[.int .i64 R.k, .int .i64 R.n, .bool R.g, .slice R.A R.ln R.lc, .int .u64 R.u, .string R.s, .slice R.B R.m R.d] 28))).tv
  have hO5 := (HO.out.put7 (g := w.heap.size + 1 + 1) (by omega) R).below ((Below.refl _ _).alloc (Nat.le_refl _) (.cells #[.int .i64 R.k, .int .i64 R.n, .bool R.g, .slice R.A R.ln R.lc, .int .u64 R.u, .string R.s, .slice R.B R.m R.d] 28))
  have y0 := C.c0; have y1 := C.c1; have y2 := C.c2; have y3 := C.c3; have y4 := C.c4; have y5 := C.c5; have y6 := C.c6
  clear C f0 f1 f2 f3 f4 f5 f6 q0 q1 q2 q3 q4 q5 q6 hx4 b3 tS HO
  change bodyPost _ _ _ _ _ ((put7 w3 (w.heap.size + 1 + 1) R).alloc (.cells #[.int .i64 R.k, .int .i64 R.n, .bool R.g, .slice R.A R.ln R.lc, .int .u64 R.u, .string R.s, .slice R.B R.m R.d] 28))
  generalize (put7 w3 (w.heap.size + 1 + 1) R).alloc (.cells #[.int .i64 R.k, .int .i64 R.n, .bool R.g, .slice R.A R.ln R.lc, .int .u64 R.u, .string R.s, .slice R.B R.m R.d] 28) = W5 at *
  exact bodyPost_ret (v := .tuple #[.agg #[.int .i64 R.k, .int .i64 R.n, .bool R.g, .slice R.A R.ln R.lc, .int .u64 R.u, .string R.s, .slice R.B R.m R.d], .int .i64 (-1)]) (by simp [results, Tryz.results17, go_sem, y0, y1, y2, y3, y4, y5, y6]) rfl ⟨R, rfl, hT5, hO5.mono (by omega), HM.out, hB5⟩

set_option maxRecDepth 100000 in
set_option maxHeartbeats 4000000 in
theorem refWh_sub_no (w : World) (s s' : Bool) (A B : Option Addr) (n c m d : Nat) (x y : Int) (h : Nm w s A n c x) (h' : Nm w s' B m d y) (ht : x.natAbs < Lm.top) (ht' : y.natAbs < Lm.top) (hf : fits (x - y) = false) :
    Calls Tryz.prog 17 #[.int .i64 6, .agg #[.bool s, .slice A n c], .agg #[.bool s', .slice B m d]] w (RfP w none) := by
  have b0 := ((((Below.refl w.heap.size w).alloc (Nat.le_refl _) (.cells #[.bool s, .slice A n c] 24)).alloc (by simp) (.cells #[.bool s', .slice B m d] 24)).alloc (by simp; omega) (.cells #[.int .i64 zeroR.k, .int .i64 zeroR.n, .bool zeroR.g, .slice zeroR.A zeroR.ln zeroR.lc, .int .u64 zeroR.u, .string zeroR.s, .slice zeroR.B zeroR.m zeroR.d] 28)).alloc (by simp; omega) (.cells #[.bool false, .slice none 0 0] 24)
  have hb := Box7.new ((w.alloc (.cells #[.bool s, .slice A n c] 24)).alloc (.cells #[.bool s', .slice B m d] 24)) zeroR
  have hx := hb.below ((Below.refl _ _).alloc (Nat.le_refl _) (.cells #[.bool false, .slice none 0 0] 24))
  have hy := Box.new (((w.alloc (.cells #[.bool s, .slice A n c] 24)).alloc (.cells #[.bool s', .slice B m d] 24)).alloc (.cells #[.int .i64 zeroR.k, .int .i64 zeroR.n, .bool zeroR.g, .slice zeroR.A zeroR.ln zeroR.lc, .int .u64 zeroR.u, .string zeroR.s, .slice zeroR.B zeroR.m zeroR.d] 28)) (.bool false) (.slice none 0 0)
  simp only [World.size_alloc] at hx hy
  have hW : ((((w.alloc (.cells #[.bool s, .slice A n c] 24)).alloc (.cells #[.bool s', .slice B m d] 24)).alloc (.cells #[.int .i64 zeroR.k, .int .i64 zeroR.n, .bool zeroR.g, .slice zeroR.A zeroR.ln zeroR.lc, .int .u64 zeroR.u, .string zeroR.s, .slice zeroR.B zeroR.m zeroR.d] 28)).alloc (.cells #[.bool false, .slice none 0 0] 24)).heap.size = w.heap.size + 4 := by simp
  clear hb
  go_enter Tryz.func17, Tryz.ntmps17
  go_wp2_with fail
  generalize ((((w.alloc (.cells #[.bool s, .slice A n c] 24)).alloc (.cells #[.bool s', .slice B m d] 24)).alloc (.cells #[.int .i64 zeroR.k, .int .i64 zeroR.n, .bool zeroR.g, .slice zeroR.A zeroR.ln zeroR.lc, .int .u64 zeroR.u, .string zeroR.s, .slice zeroR.B zeroR.m zeroR.d] 28)).alloc (.cells #[.bool false, .slice none 0 0] 24)) = W at *
  have QQ : Calls Tryz.prog 35 #[.agg #[.bool s, .slice A n c], .agg #[.bool s', .slice B m d]] W (NumPost W (clip (x - y)) (fits (x - y))) := by
    have := refSub_yes W s s' A B n c m d _ _ (h.below b0).1 (h'.below b0).1 (h.may ht) (h'.may ht')
    rwa [h.eqZ, h'.eqZ] at this
  refine QQ.mono ?_
  clear QQ
  rw [hf]
  rintro e w1 ⟨V, rfl, ⟨s1, A1, n1, c1, rfl, hs, hO⟩, hb1⟩
  have hx1 := hx.below hb1
  have hy1 := hy.below' hb1
  have b1 := b0.trans (hb1.mono b0.size)
  have z0 := hy1.c0
  have z1 := hy1.c1
  have f0 := hy1.f0
  have f1 := hy1.f1
  have g0 := hx1.frozen 0; have g1 := hx1.frozen 1; have g2 := hx1.frozen 2; have g3 := hx1.frozen 3; have g4 := hx1.frozen 4; have g5 := hx1.frozen 5; have g6 := hx1.frozen 6; have q0 := hx1.at.c0; have q1 := hx1.at.c1; have q2 := hx1.at.c2; have q3 := hx1.at.c3; have q4 := hx1.at.c4; have q5 := hx1.at.c5; have q6 := hx1.at.c6
  have ne : w.heap.size + 1 + 1 + 1 ≠ w.heap.size + 1 + 1 := by omega
  clear hx hy b0
  go_wp2
  have C := (((hx1.setO (g' := w.heap.size + 1 + 1 + 1) ne 0 (.bool s1)).setO (g' := w.heap.size + 1 + 1 + 1) ne 1 (.slice A1 n1 c1)).put zeroR).at
  have hB5 := ((b1.setCell (p := ⟨w.heap.size + 1 + 1 + 1, 0, none⟩) (by simp only; omega) (.bool s1)).setCell (p := ⟨w.heap.size + 1 + 1 + 1, 1, none⟩) (by simp only; omega) (.slice A1 n1 c1)).put7 (g := w.heap.size + 1 + 1) (by omega) zeroR
  have y0 := C.c0; have y1 := C.c1; have y2 := C.c2; have y3 := C.c3; have y4 := C.c4; have y5 := C.c5; have y6 := C.c6
  clear C g0 g1 g2 g3 g4 g5 g6 q0 q1 q2 q3 q4 q5 q6 z0 z1 f0 f1
  change bodyPost _ _ _ _ _ (put7 ((w1.setCell ⟨w.heap.size + 1 + 1 + 1, 0, none⟩ (.bool s1)).setCell ⟨w.heap.size + 1 + 1 + 1, 1, none⟩ (.slice A1 n1 c1)) (w.heap.size + 1 + 1) zeroR)
  generalize put7 ((w1.setCell ⟨w.heap.size + 1 + 1 + 1, 0, none⟩ (.bool s1)).setCell ⟨w.heap.size + 1 + 1 + 1, 1, none⟩ (.slice A1 n1 c1)) (w.heap.size + 1 + 1) zeroR = W5 at *
  exact bodyPost_ret (v := .tuple #[.agg #[.int .i64 zeroR.k, .int .i64 zeroR.n, .bool zeroR.g, .slice zeroR.A zeroR.ln zeroR.lc, .int .u64 zeroR.u, .string zeroR.s, .slice zeroR.B zeroR.m zeroR.d], .int .i64 1]) (by simp [results, Tryz.results17, go_sem, y0, y1, y2, y3, y4, y5, y6]) rfl ⟨zeroR, rfl, TV.zero, Own.nil _ _, rfl, hB5⟩
set_option maxRecDepth 100000 in
set_option maxHeartbeats 4000000 in
theorem refWh_sub (w : World) (s s' : Bool) (A B : Option Addr) (n c m d : Nat) (x y : Int) (h : Nm w s A n c x) (h' : Nm w s' B m d y) (ht : x.natAbs < Lm.top) (ht' : y.natAbs < Lm.top) (hf : fits (x - y) = true) :
    Calls Tryz.prog 17 #[.int .i64 6, .agg #[.bool s, .slice A n c], .agg #[.bool s', .slice B m d]] w (RfP w (some (intT (x - y)))) := by
  have htop : (x - y).natAbs < Lm.top := of_decide_eq_true hf
  have hlen := (Lm.top_iff _).2 htop
  have b0 := ((((Below.refl w.heap.size w).alloc (Nat.le_refl _) (.cells #[.bool s, .slice A n c] 24)).alloc (by simp) (.cells #[.bool s', .slice B m d] 24)).alloc (by simp; omega) (.cells #[.int .i64 zeroR.k, .int .i64 zeroR.n, .bool zeroR.g, .slice zeroR.A zeroR.ln zeroR.lc, .int .u64 zeroR.u, .string zeroR.s, .slice zeroR.B zeroR.m zeroR.d] 28)).alloc (by simp; omega) (.cells #[.bool false, .slice none 0 0] 24)
  have hb := Box7.new ((w.alloc (.cells #[.bool s, .slice A n c] 24)).alloc (.cells #[.bool s', .slice B m d] 24)) zeroR
  have hx := hb.below ((Below.refl _ _).alloc (Nat.le_refl _) (.cells #[.bool false, .slice none 0 0] 24))
  have hy := Box.new (((w.alloc (.cells #[.bool s, .slice A n c] 24)).alloc (.cells #[.bool s', .slice B m d] 24)).alloc (.cells #[.int .i64 zeroR.k, .int .i64 zeroR.n, .bool zeroR.g, .slice zeroR.A zeroR.ln zeroR.lc, .int .u64 zeroR.u, .string zeroR.s, .slice zeroR.B zeroR.m zeroR.d] 28)) (.bool false) (.slice none 0 0)
  simp only [World.size_alloc] at hx hy
  have hW : ((((w.alloc (.cells #[.bool s, .slice A n c] 24)).alloc (.cells #[.bool s', .slice B m d] 24)).alloc (.cells #[.int .i64 zeroR.k, .int .i64 zeroR.n, .bool zeroR.g, .slice zeroR.A zeroR.ln zeroR.lc, .int .u64 zeroR.u, .string zeroR.s, .slice zeroR.B zeroR.m zeroR.d] 28)).alloc (.cells #[.bool false, .slice none 0 0] 24)).heap.size = w.heap.size + 4 := by simp
  clear hb
  go_enter Tryz.func17, Tryz.ntmps17
  go_wp2_with fail
  generalize ((((w.alloc (.cells #[.bool s, .slice A n c] 24)).alloc (.cells #[.bool s', .slice B m d] 24)).alloc (.cells #[.int .i64 zeroR.k, .int .i64 zeroR.n, .bool zeroR.g, .slice zeroR.A zeroR.ln zeroR.lc, .int .u64 zeroR.u, .string zeroR.s, .slice zeroR.B zeroR.m zeroR.d] 28)).alloc (.cells #[.bool false, .slice none 0 0] 24)) = W at *
  have QQ : Calls Tryz.prog 35 #[.agg #[.bool s, .slice A n c], .agg #[.bool s', .slice B m d]] W (NumPost W (clip (x - y)) (fits (x - y))) := by
    have := refSub_yes W s s' A B n c m d _ _ (h.below b0).1 (h'.below b0).1 (h.may ht) (h'.may ht')
    rwa [h.eqZ, h'.eqZ] at this
  refine QQ.mono ?_
  clear QQ
  rw [hf, clip_fits hf]
  rintro e w1 ⟨V, rfl, ⟨s1, A1, n1, c1, rfl, hs, hO⟩, hb1⟩
  have hx1 := hx.below hb1
  have hy1 := hy.below' hb1
  have b1 := b0.trans (hb1.mono b0.size)
  have hsz1 : w.heap.size + 4 ≤ w1.heap.size := by rw [← hW]; exact hb1.size
  have z0 := hy1.c0
  have z1 := hy1.c1
  have f0 := hy1.f0
  have f1 := hy1.f1
  have hn : n1 ≤ 1000 := by rw [← hO.2.1]; omega
  clear hx hy b0
  go_wp2_with fail
  have hO2 := (hO.setO (p := ⟨w.heap.size + 1 + 1 + 1, 0, none⟩) (by simp only; omega) (.bool s1)).setO (p := ⟨w.heap.size + 1 + 1 + 1, 1, none⟩) (by simp only; omega) (.slice A1 n1 c1)
  have hx2 := hx1.setO (g' := w.heap.size + 1 + 1 + 1) (by omega) 0 (.bool s1)
  have hx3 := hx2.setO (g' := w.heap.size + 1 + 1 + 1) (by omega) 1 (.slice A1 n1 c1)
  have b2 := (b1.setCell (p := ⟨w.heap.size + 1 + 1 + 1, 0, none⟩) (by simp only; omega) (.bool s1)).setCell (p := ⟨w.heap.size + 1 + 1 + 1, 1, none⟩) (by simp only; omega) (.slice A1 n1 c1)
  have hsz2 : ((w1.setCell ⟨w.heap.size + 1 + 1 + 1, 0, none⟩ (.bool s1)).setCell ⟨w.heap.size + 1 + 1 + 1, 1, none⟩ (.slice A1 n1 c1)).heap.size = w1.heap.size := by simp
  clear z0 z1 f0 f1 hx2
  generalize (w1.setCell ⟨w.heap.size + 1 + 1 + 1, 0, none⟩ (.bool s1)).setCell ⟨w.heap.size + 1 + 1 + 1, 1, none⟩ (.slice A1 n1 c1) = W2 at *
  refine (refOfNum_any W2 s1 A1 n1 c1 _ ⟨hO2.lim, hO2.cap.2⟩ hn).mono ?_
  rintro e w3 ⟨R, rfl, hT, hO3, hm0, hb3⟩
  rw [hs.out] at hT hO3
  have hT' : TV w3 R (intT (x - y)) := hT
  have hO4 : Own w3 W2.heap.size R.A R.ln R.lc (intT (x - y)).mag := hO3
  have tS := Lib.hid (show TVS (fun b => w.heap.size + 4 ≤ b) w3 R (intT (x - y)) from TVS.leafy hT' (fun _ a e => by rw [e] at hO4; have := (World.ownsRow.lt hO4.2.2 a.block rfl).1; omega) hm0)
  have HO := Lib.hid hO4
  have HM := Lib.hid hm0
  clear hm0
  have hx4 := hx3.below hb3
  have b3 := b2.trans (hb3.mono b2.size)
  have hsz3 : w.heap.size + 4 ≤ w3.heap.size := by have := hb3.size; omega
  generalize mayB s1 (Lm.digits (x - y).natAbs) = ok
  clear hT hT' hO3 hO4 hx1 hx3 hy1 hO2 hO hs
  have f0 := hx4.frozen 0; have f1 := hx4.frozen 1; have f2 := hx4.frozen 2; have f3 := hx4.frozen 3; have f4 := hx4.frozen 4; have f5 := hx4.frozen 5; have f6 := hx4.frozen 6; have q0 := hx4.at.c0; have q1 := hx4.at.c1; have q2 := hx4.at.c2; have q3 := hx4.at.c3; have q4 := hx4.at.c4; have q5 := hx4.at.c5; have q6 := hx4.at.c6
  have hlt : w.heap.size + 1 + 1 < w3.heap.size := by omega
  go_wp2
  have C := ((hx4.put R).below ((Below.refl _ _).alloc (Nat.le_refl _) (.cells #[.int .i64 R.k, .int .i64 R.n, .bool R.g, .slice R.A R.ln R.lc, .int .u64 R.u, .string R.s, .slice R.B R.m R.d] 28))).at
  have hB5 := (b3.put7 (g := w.heap.size + 1 + 1) (by omega) R).alloc (by rw [put7_size]; omega) (.cells #[.int .i64 R.k, .int .i64 R.n, .bool R.g, .slice R.A R.ln R.lc, .int .u64 R.u, .string R.s, .slice R.B R.m R.d] 28)
  have hT5 := (tS.out.keep (((Keeps.refl _ w3).put7 (g := w.heap.size + 1 + 1) (by omega) R).alloc (.cells #[.int .i64 R.k, .int .i64 R.n, .bool R.g, .slice R.A R.ln R.lc, .int .u64 R.u, .string R.s, .slice R.B R.m R.d] 28))).tv
  have hO5 := (HO.out.put7 (g := w.heap.size + 1 + 1) (by omega) R).below ((Below.refl _ _).alloc (Nat.le_refl _) (.cells #[.int .i64 R.k, .int .i64 R.n, .bool R.g, .slice R.A R.ln R.lc, .int .u64 R.u, .string R.s, .slice R.B R.m R.d] 28))
  have y0 := C.c0; have y1 := C.c1; have y2 := C.c2; have y3 := C.c3; have y4 := C.c4; have y5 := C.c5; have y6 := C.c6
  clear C f0 f1 f2 f3 f4 f5 f6 q0 q1 q2 q3 q4 q5 q6 hx4 b3 tS HO
  change bodyPost _ _ _ _ _ ((put7 w3 (w.heap.size + 1 + 1) R).alloc (.cells #[.int .i64 R.k, .int .i64 R.n, .bool R.g, .slice R.A R.ln R.lc, .int .u64 R.u, .string R.s, .slice R.B R.m R.d] 28))
  generalize (put7 w3 (w.heap.size + 1 + 1) R).alloc (.cells #[.int .i64 R.k, .int .i64 R.n, .bool R.g, .slice R.A R.ln R.lc, .int .u64 R.u, .string R.s, .slice R.B R.m R.d] 28) = W5 at *
  exact bodyPost_ret (v := .tuple #[.agg #[.int .i64 R.k, .int .i64 R.n, .bool R.g, .slice R.A R.ln R.lc, .int .u64 R.u, .string R.s, .slice R.B R.m R.d], .int .i64 (-1)]) (by simp [results, Tryz.results17, go_sem, y0, y1, y2, y3, y4, y5, y6]) rfl ⟨R, rfl, hT5, hO5.mono (by omega), HM.out, hB5⟩

set_option maxRecDepth 100000 in
set_option maxHeartbeats 4000000 in
theorem refWh_mul_no (w : World) (s s' : Bool) (A B : Option Addr) (n c m d : Nat) (x y : Int) (h : Nm w s A n c x) (h' : Nm w s' B m d y) (ht : x.natAbs < Lm.top) (ht' : y.natAbs < Lm.top) (hf : fits (x * y) = false) :
    Calls Tryz.prog 17 #[.int .i64 7, .agg #[.bool s, .slice A n c], .agg #[.bool s', .slice B m d]] w (RfP w none) := by
  have b0 := ((((Below.refl w.heap.size w).alloc (Nat.le_refl _) (.cells #[.bool s, .slice A n c] 24)).alloc (by simp) (.cells #[.bool s', .slice B m d] 24)).alloc (by simp; omega) (.cells #[.int .i64 zeroR.k, .int .i64 zeroR.n, .bool zeroR.g, .slice zeroR.A zeroR.ln zeroR.lc, .int .u64 zeroR.u, .string zeroR.s, .slice zeroR.B zeroR.m zeroR.d] 28)).alloc (by simp; omega) (.cells #[.bool false, .slice none 0 0] 24)
  have hb := Box7.new ((w.alloc (.cells #[.bool s, .slice A n c] 24)).alloc (.cells #[.bool s', .slice B m d] 24)) zeroR
  have hx := hb.below ((Below.refl _ _).alloc (Nat.le_refl _) (.cells #[.bool false, .slice none 0 0] 24))
  have hy := Box.new (((w.alloc (.cells #[.bool s, .slice A n c] 24)).alloc (.cells #[.bool s', .slice B m d] 24)).alloc (.cells #[.int .i64 zeroR.k, .int .i64 zeroR.n, .bool zeroR.g, .slice zeroR.A zeroR.ln zeroR.lc, .int .u64 zeroR.u, .string zeroR.s, .slice zeroR.B zeroR.m zeroR.d] 28)) (.bool false) (.slice none 0 0)
  simp only [World.size_alloc] at hx hy
  have hW : ((((w.alloc (.cells #[.bool s, .slice A n c] 24)).alloc (.cells #[.bool s', .slice B m d] 24)).alloc (.cells #[.int .i64 zeroR.k, .int .i64 zeroR.n, .bool zeroR.g, .slice zeroR.A zeroR.ln zeroR.lc, .int .u64 zeroR.u, .string zeroR.s, .slice zeroR.B zeroR.m zeroR.d] 28)).alloc (.cells #[.bool false, .slice none 0 0] 24)).heap.size = w.heap.size + 4 := by simp
  clear hb
  go_enter Tryz.func17, Tryz.ntmps17
  go_wp2_with fail
  generalize ((((w.alloc (.cells #[.bool s, .slice A n c] 24)).alloc (.cells #[.bool s', .slice B m d] 24)).alloc (.cells #[.int .i64 zeroR.k, .int .i64 zeroR.n, .bool zeroR.g, .slice zeroR.A zeroR.ln zeroR.lc, .int .u64 zeroR.u, .string zeroR.s, .slice zeroR.B zeroR.m zeroR.d] 28)).alloc (.cells #[.bool false, .slice none 0 0] 24)) = W at *
  have QQ : Calls Tryz.prog 36 #[.agg #[.bool s, .slice A n c], .agg #[.bool s', .slice B m d]] W (NumPost W (clip (x * y)) (fits (x * y))) := by
    have := refMul_yes W s s' A B n c m d _ _ (h.below b0).1 (h'.below b0).1 (h.may ht) (h'.may ht')
    rwa [h.eqZ, h'.eqZ] at this
  refine QQ.mono ?_
  clear QQ
  rw [hf]
  rintro e w1 ⟨V, rfl, ⟨s1, A1, n1, c1, rfl, hs, hO⟩, hb1⟩
  have hx1 := hx.below hb1
  have hy1 := hy.below' hb1
  have b1 := b0.trans (hb1.mono b0.size)
  have z0 := hy1.c0
  have z1 := hy1.c1
  have f0 := hy1.f0
  have f1 := hy1.f1
  have g0 := hx1.frozen 0; have g1 := hx1.frozen 1; have g2 := hx1.frozen 2; have g3 := hx1.frozen 3; have g4 := hx1.frozen 4; have g5 := hx1.frozen 5; have g6 := hx1.frozen 6; have q0 := hx1.at.c0; have q1 := hx1.at.c1; have q2 := hx1.at.c2; have q3 := hx1.at.c3; have q4 := hx1.at.c4; have q5 := hx1.at.c5; have q6 := hx1.at.c6
  have ne : w.heap.size + 1 + 1 + 1 ≠ w.heap.size + 1 + 1 := by omega
  clear hx hy b0
  go_wp2
  have C := (((hx1.setO (g' := w.heap.size + 1 + 1 + 1) ne 0 (.bool s1)).setO (g' := w.heap.size + 1 + 1 + 1) ne 1 (.slice A1 n1 c1)).put zeroR).at
  have hB5 := ((b1.setCell (p := ⟨w.heap.size + 1 + 1 + 1, 0, none⟩) (by simp only; omega) (.bool s1)).setCell (p := ⟨w.heap.size + 1 + 1 + 1, 1, none⟩) (by simp only; omega) (.slice A1 n1 c1)).put7 (g := w.heap.size + 1 + 1) (by omega) zeroR
  have y0 := C.c0; have y1 := C.c1; have y2 := C.c2; have y3 := C.c3; have y4 := C.c4; have y5 := C.c5; have y6 := C.c6
  clear C g0 g1 g2 g3 g4 g5 g6 q0 q1 q2 q3 q4 q5 q6 z0 z1 f0 f1
  change bodyPost _ _ _ _ _ (put7 ((w1.setCell ⟨w.heap.size + 1 + 1 + 1, 0, none⟩ (.bool s1)).setCell ⟨w.heap.size + 1 + 1 + 1, 1, none⟩ (.slice A1 n1 c1)) (w.heap.size + 1 + 1) zeroR)
  generalize put7 ((w1.setCell ⟨w.heap.size + 1 + 1 + 1, 0, none⟩ (.bool s1)).setCell ⟨w.heap.size + 1 + 1 + 1, 1, none⟩ (.slice A1 n1 c1)) (w.heap.size + 1 + 1) zeroR = W5 at *
  exact bodyPost_ret (v := .tuple #[.agg #[.int .i64 zeroR.k, .int .i64 zeroR.n, .bool zeroR.g, .slice zeroR.A zeroR.ln zeroR.lc, .int .u64 zeroR.u, .string zeroR.s, .slice zeroR.B zeroR.m zeroR.d], .int .i64 1]) (by simp [results, Tryz.results17, go_sem, y0, y1, y2, y3, y4, y5, y6]) rfl ⟨zeroR, rfl, TV.zero, Own.nil _ _, rfl, hB5⟩
set_option maxRecDepth 100000 in
set_option maxHeartbeats 4000000 in
theorem refWh_mul (w : World) (s s' : Bool) (A B : Option Addr) (n c m d : Nat) (x y : Int) (h : Nm w s A n c x) (h' : Nm w s' B m d y) (ht : x.natAbs < Lm.top) (ht' : y.natAbs < Lm.top) (hf : fits (x * y) = true) :
    Calls Tryz.prog 17 #[.int .i64 7, .agg #[.bool s, .slice A n c], .agg #[.bool s', .slice B m d]] w (RfP w (some (intT (x * y)))) := by
  have htop : (x * y).natAbs < Lm.top := of_decide_eq_true hf
  have hlen := (Lm.top_iff _).2 htop
  have b0 := ((((Below.refl w.heap.size w).alloc (Nat.le_refl _) (.cells #[.bool s, .slice A n c] 24)).alloc (by simp) (.cells #[.bool s', .slice B m d] 24)).alloc (by simp; omega) (.cells #[.int .i64 zeroR.k, .int .i64 zeroR.n, .bool zeroR.g, .slice zeroR.A zeroR.ln zeroR.lc, .int .u64 zeroR.u, .string zeroR.s, .slice zeroR.B zeroR.m zeroR.d] 28)).alloc (by simp; omega) (.cells #[.bool false, .slice none 0 0] 24)
  have hb := Box7.new ((w.alloc (.cells #[.bool s, .slice A n c] 24)).alloc (.cells #[.bool s', .slice B m d] 24)) zeroR
  have hx := hb.below ((Below.refl _ _).alloc (Nat.le_refl _) (.cells #[.bool false, .slice none 0 0] 24))
  have hy := Box.new (((w.alloc (.cells #[.bool s, .slice A n c] 24)).alloc (.cells #[.bool s', .slice B m d] 24)).alloc (.cells #[.int .i64 zeroR.k, .int .i64 zeroR.n, .bool zeroR.g, .slice zeroR.A zeroR.ln zeroR.lc, .int .u64 zeroR.u, .string zeroR.s, .slice zeroR.B zeroR.m zeroR.d] 28)) (.bool false) (.slice none 0 0)
  simp only [World.size_alloc] at hx hy
  have hW : ((((w.alloc (.cells #[.bool s, .slice A n c] 24)).alloc (.cells #[.bool s', .slice B m d] 24)).alloc (.cells #[.int .i64 zeroR.k, .int .i64 zeroR.n, .bool zeroR.g, .slice zeroR.A zeroR.ln zeroR.lc, .int .u64 zeroR.u, .string zeroR.s, .slice zeroR.B zeroR.m zeroR.d] 28)).alloc (.cells #[.bool false, .slice none 0 0] 24)).heap.size = w.heap.size + 4 := by simp
  clear hb
  go_enter Tryz.func17, Tryz.ntmps17
  go_wp2_with fail
  generalize ((((w.alloc (.cells #[.bool s, .slice A n c] 24)).alloc (.cells #[.bool s', .slice B m d] 24)).alloc (.cells #[.int .i64 zeroR.k, .int .i64 zeroR.n, .bool zeroR.g, .slice zeroR.A zeroR.ln zeroR.lc, .int .u64 zeroR.u, .string zeroR.s, .slice zeroR.B zeroR.m zeroR.d] 28)).alloc (.cells #[.bool false, .slice none 0 0] 24)) = W at *
  have QQ : Calls Tryz.prog 36 #[.agg #[.bool s, .slice A n c], .agg #[.bool s', .slice B m d]] W (NumPost W (clip (x * y)) (fits (x * y))) := by
    have := refMul_yes W s s' A B n c m d _ _ (h.below b0).1 (h'.below b0).1 (h.may ht) (h'.may ht')
    rwa [h.eqZ, h'.eqZ] at this
  refine QQ.mono ?_
  clear QQ
  rw [hf, clip_fits hf]
  rintro e w1 ⟨V, rfl, ⟨s1, A1, n1, c1, rfl, hs, hO⟩, hb1⟩
  have hx1 := hx.below hb1
  have hy1 := hy.below' hb1
  have b1 := b0.trans (hb1.mono b0.size)
  have hsz1 : w.heap.size + 4 ≤ w1.heap.size := by rw [← hW]; exact hb1.size
  have z0 := hy1.c0
  have z1 := hy1.c1
  have f0 := hy1.f0
  have f1 := hy1.f1
  have hn : n1 ≤ 1000 := by rw [← hO.2.1]; omega
  clear hx hy b0
  go_wp2_with fail
  have hO2 := (hO.setO (p := ⟨w.heap.size + 1 + 1 + 1, 0, none⟩) (by simp only; omega) (.bool s1)).setO (p := ⟨w.heap.size + 1 + 1 + 1, 1, none⟩) (by simp only; omega) (.slice A1 n1 c1)
  have hx2 := hx1.setO (g' := w.heap.size + 1 + 1 + 1) (by omega) 0 (.bool s1)
  have hx3 := hx2.setO (g' := w.heap.size + 1 + 1 + 1) (by omega) 1 (.slice A1 n1 c1)
  have b2 := (b1.setCell (p := ⟨w.heap.size + 1 + 1 + 1, 0, none⟩) (by simp only; omega) (.bool s1)).setCell (p := ⟨w.heap.size + 1 + 1 + 1, 1, none⟩) (by simp only; omega) (.slice A1 n1 c1)
  have hsz2 : ((w1.setCell ⟨w.heap.size + 1 + 1 + 1, 0, none⟩ (.bool s1)).setCell ⟨w.heap.size + 1 + 1 + 1, 1, none⟩ (.slice A1 n1 c1)).heap.size = w1.heap.size := by simp
  clear z0 z1 f0 f1 hx2
  generalize (w1.setCell ⟨w.heap.size + 1 + 1 + 1, 0, none⟩ (.bool s1)).setCell ⟨w.heap.size + 1 + 1 + 1, 1, none⟩ (.slice A1 n1 c1) = W2 at *
  refine (refOfNum_any W2 s1 A1 n1 c1 _ ⟨hO2.lim, hO2.cap.2⟩ hn).mono ?_
  rintro e w3 ⟨R, rfl, hT, hO3, hm0, hb3⟩
  rw [hs.out] at hT hO3
  have hT' : TV w3 R (intT (x * y)) := hT
  have hO4 : Own w3 W2.heap.size R.A R.ln R.lc (intT (x * y)).mag := hO3
  have tS := Lib.hid (show TVS (fun b => w.heap.size + 4 ≤ b) w3 R (intT (x * y)) from TVS.leafy hT' (fun _ a e => by rw [e] at hO4; have := (World.ownsRow.lt hO4.2.2 a.block rfl).1; omega) hm0)
  have HO := Lib.hid hO4
  have HM := Lib.hid hm0
  clear hm0
  have hx4 := hx3.below hb3
  have b3 := b2.trans (hb3.mono b2.size)
  have hsz3 : w.heap.size + 4 ≤ w3.heap.size := by have := hb3.size; omega
  generalize mayB s1 (Lm.digits (x * y).natAbs) = ok
  clear hT hT' hO3 hO4 hx1 hx3 hy1 hO2 hO hs
  have f0 := hx4.frozen 0; have f1 := hx4.frozen 1; have f2 := hx4.frozen 2; have f3 := hx4.frozen 3; have f4 := hx4.frozen 4; have f5 := hx4.frozen 5; have f6 := hx4.frozen 6; have q0 := hx4.at.c0; have q1 := hx4.at.c1; have q2 := hx4.at.c2; have q3 := hx4.at.c3; have q4 := hx4.at.c4; have q5 := hx4.at.c5; have q6 := hx4.at.c6
  have hlt : w.heap.size + 1 + 1 < w3.heap.size := by omega
  go_wp2
  have C := ((hx4.put R).below ((Below.refl _ _).alloc (Nat.le_refl _) (.cells #[.int .i64 R.k, .int .i64 R.n, .bool R.g, .slice R.A R.ln R.lc, .int .u64 R.u, .string R.s, .slice R.B R.m R.d] 28))).at
  have hB5 := (b3.put7 (g := w.heap.size + 1 + 1) (by omega) R).alloc (by rw [put7_size]; omega) (.cells #[.int .i64 R.k, .int .i64 R.n, .bool R.g, .slice R.A R.ln R.lc, .int .u64 R.u, .string R.s, .slice R.B R.m R.d] 28)
  have hT5 := (tS.out.keep (((Keeps.refl _ w3).put7 (g := w.heap.size + 1 + 1) (by omega) R).alloc (.cells #[.int .i64 R.k, .int .i64 R.n, .bool R.g, .slice R.A R.ln R.lc, .int .u64 R.u, .string R.s, .slice R.B R.m R.d] 28))).tv
  have hO5 := (HO.out.put7 (g := w.heap.size + 1 + 1) (by omega) R).below ((Below.refl _ _).alloc (Nat.le_refl _) (.cells #[.int .i64 R.k, .int .i64 R.n, .bool R.g, .slice R.A R.ln R.lc, .int .u64 R.u, .string R.s, .slice R.B R.m R.d] 28))
  have y0 := C.c0; have y1 := C.c1; have y2 := C.c2; have y3 := C.c3; have y4 := C.c4; have y5 := C.c5; have y6 := C.c6
  clear C f0 f1 f2 f3 f4 f5 f6 q0 q1 q2 q3 q4 q5 q6 hx4 b3 tS HO
  change bodyPost _ _ _ _ _ ((put7 w3 (w.heap.size + 1 + 1) R).alloc (.cells #[.int .i64 R.k, .int .i64 R.n, .bool R.g, .slice R.A R.ln R.lc, .int .u64 R.u, .string R.s, .slice R.B R.m R.d] 28))
  generalize (put7 w3 (w.heap.size + 1 + 1) R).alloc (.cells #[.int .i64 R.k, .int .i64 R.n, .bool R.g, .slice R.A R.ln R.lc, .int .u64 R.u, .string R.s, .slice R.B R.m R.d] 28) = W5 at *
  exact bodyPost_ret (v := .tuple #[.agg #[.int .i64 R.k, .int .i64 R.n, .bool R.g, .slice R.A R.ln R.lc, .int .u64 R.u, .string R.s, .slice R.B R.m R.d], .int .i64 (-1)]) (by simp [results, Tryz.results17, go_sem, y0, y1, y2, y3, y4, y5, y6]) rfl ⟨R, rfl, hT5, hO5.mono (by omega), HM.out, hB5⟩

set_option maxRecDepth 100000 in
theorem refWh_any (w : World) (op : Int) (s s' : Bool) (A B : Option Addr) (n c m d : Nat) (x y : Int) (h : Nm w s A n c x) (h' : Nm w s' B m d y) (ht : x.natAbs < Lm.top) (ht' : y.natAbs < Lm.top) (ho : op = 5 ∨ op = 6 ∨ op = 7) :
    Calls Tryz.prog 17 #[.int .i64 op, .agg #[.bool s, .slice A n c], .agg #[.bool s', .slice B m d]] w (RfP w ((whO op x y).map intT)) := by
  rcases ho with rfl | rfl | rfl
  · show Calls _ _ _ _ (RfP w ((ifFits (x + y)).map intT))
    cases hf : fits (x + y) with
    | true => rw [show ifFits (x + y) = some (x + y) by unfold ifFits; rw [if_pos hf]]; exact refWh_add w s s' A B n c m d x y h h' ht ht' hf
    | false => rw [show ifFits (x + y) = none by unfold ifFits; rw [if_neg (by rw [hf]; decide)]]; exact refWh_add_no w s s' A B n c m d x y h h' ht ht' hf
  · show Calls _ _ _ _ (RfP w ((ifFits (x - y)).map intT))
    cases hf : fits (x - y) with
    | true => rw [show ifFits (x - y) = some (x - y) by unfold ifFits; rw [if_pos hf]]; exact refWh_sub w s s' A B n c m d x y h h' ht ht' hf
    | false => rw [show ifFits (x - y) = none by unfold ifFits; rw [if_neg (by rw [hf]; decide)]]; exact refWh_sub_no w s s' A B n c m d x y h h' ht ht' hf
  · show Calls _ _ _ _ (RfP w ((ifFits (x * y)).map intT))
    cases hf : fits (x * y) with
    | true => rw [show ifFits (x * y) = some (x * y) by unfold ifFits; rw [if_pos hf]]; exact refWh_mul w s s' A B n c m d x y h h' ht ht' hf
    | false => rw [show ifFits (x * y) = none by unfold ifFits; rw [if_neg (by rw [hf]; decide)]]; exact refWh_mul_no w s s' A B n c m d x y h h' ht ht' hf
end Go.Proofs.YtompimbeaeinbaaGreat
