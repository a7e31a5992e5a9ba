/-
  PACKAGE term: Num of any term; PACKAGE arith: integer, float.
-/
import Derived.Test.YtompimbeaeinbaaGreatJ8
import Derived.Test.YtompimbeaeinbaaGreatFltL
namespace Go.Proofs.YtompimbeaeinbaaGreat
open Go.RowKit

/-- The integer that a term is, if it is one. -/
noncomputable def Tm.intO (t : Tm) : Option Int := if t.mayB = true then (if t.kind = 1 then some t.num else if t.kind = 2 then some (sgn t.neg (Lm.val t.mag)) else none) else none
/-- A call leaves this integer, and true. -/
def IntP (w : World) (z : Int) (e : Ending) (w' : World) : Prop :=
  ∃ s A n c, e = .returned (.tuple #[.agg #[.bool s, .slice A n c], .bool true]) ∧ Hid (s = decide (z < 0)) ∧ Own w' w.heap.size A n c (Lm.digits z.natAbs) ∧ Below w.heap.size w w'
/-- A call leaves no integer. -/
def NonP (w : World) (e : Ending) (w' : World) : Prop := e = .returned (.tuple #[.agg #[.bool false, .slice none 0 0], .bool false]) ∧ Below w.heap.size w w'

set_option maxRecDepth 100000 in
set_option maxHeartbeats 4000000 in
theorem tnum_int (w : World) (r : TR) (t : Tm) (h : TV w r t) (ho : t.Ok) (hm : t.mayB = true) (hk : t.kind = 1) : Calls Tryz.prog 55 #[.agg #[.int .i64 r.k, .int .i64 r.n, .bool r.g, .slice r.A r.ln r.lc, .int .u64 r.u, .string r.s, .slice r.B r.m r.d]] w (IntP w t.num) := by
  have I := (BxI.new h).below ((Below.refl _ _).alloc (Nat.le_refl _) (.cells #[.bool false, .slice none 0 0] 24))
  have hy := Box.new (w.alloc (.cells #[.int .i64 r.k, .int .i64 r.n, .bool r.g, .slice r.A r.ln r.lc, .int .u64 r.u, .string r.s, .slice r.B r.m r.d] 28)) (.bool false) (.slice none 0 0)
  rw [World.size_alloc] at hy
  have hW : ((w.alloc (.cells #[.int .i64 r.k, .int .i64 r.n, .bool r.g, .slice r.A r.ln r.lc, .int .u64 r.u, .string r.s, .slice r.B r.m r.d] 28)).alloc (.cells #[.bool false, .slice none 0 0] 24)).heap.size = w.heap.size + 2 := by simp
  rw [h.kind] at hk
  rw [h.num]
  have e1 : (r.k == 1) = true := by rw [hk]; rfl
  have hn0 := h.flat.n0
  have hn1 := h.flat.n1
  clear hk
  go_enter Tryz.func55, Tryz.ntmps55
  go_wp2_with fail
  generalize (w.alloc (.cells #[.int .i64 r.k, .int .i64 r.n, .bool r.g, .slice r.A r.ln r.lc, .int .u64 r.u, .string r.s, .slice r.B r.m r.d] 28)).alloc (.cells #[.bool false, .slice none 0 0] 24) = W at *
  refine (mayTerm_any W r t I.tv ho).mono ?_
  rw [hm]
  rintro e w1 ⟨rfl, hb1⟩
  have I1 := I.below hb1
  have hy1 := hy.below' hb1
  have y1 := I1.bx.at.c1
  have hsz1 : w.heap.size + 2 ≤ w1.heap.size := by rw [← hW]; exact hb1.size
  clear I hy
  go_wp2_with fail
  refine (of_any w1 r.n hn0 hn1).mono ?_
  rintro e w2 ⟨V, rfl, ⟨s, A, n, c, rfl, hss, hO⟩, hb2⟩
  have I2 := I1.below hb2
  have hy2 := hy1.below' hb2
  have f0 := hy2.f0
  have f1 := hy2.f1
  have z0 := hy2.c0
  have z1 := hy2.c1
  clear y1 I1 hy1
  go_wp2
  have hB := hy2.put2 (x' := .bool s) (y' := .slice A n c)
  have hbl := (I2.be.setCell (p := ⟨w.heap.size + 1, 0, none⟩) (by simp only; omega) (.bool s)).setCell (p := ⟨w.heap.size + 1, 1, none⟩) (by simp only; omega) (.slice A n c)
  have hO5 := (hO.setO (p := ⟨w.heap.size + 1, 0, none⟩) (by simp only; omega) (.bool s)).setO (p := ⟨w.heap.size + 1, 1, none⟩) (by simp only; omega) (.slice A n c)
  clear z0 z1 f0 f1
  generalize (w2.setCell ⟨w.heap.size + 1, 0, none⟩ (.bool s)).setCell ⟨w.heap.size + 1, 1, none⟩ (.slice A n c) = W5 at *
  have z0 := hB.c0
  have z1 := hB.c1
  exact bodyPost_ret (v := .tuple #[.agg #[.bool s, .slice A n c], .bool true]) (by simp [results, Tryz.results55, go_sem, z0, z1]) rfl ⟨s, A, n, c, rfl, hss, hO5.mono (by omega), hbl⟩

set_option maxRecDepth 100000 in
theorem may_mag {t : Tm} (hm : t.mayB = true) (hk : t.kind = 2) : mayB t.neg t.mag = true := by
  cases t with
  | mk k n g l u s ks =>
    simp only [Tm.kind] at hk
    subst hk
    unfold Tm.mayB at hm
    simp only [Bool.and_eq_true] at hm
    have hf := hm.2
    simp [Tm.formB, Tm.boundB, Tm.kind, Tm.mag, Tm.neg] at hf
    simp [Tm.neg, Tm.mag, hf]

set_option maxRecDepth 100000 in
set_option maxHeartbeats 4000000 in
theorem tnum_big (w : World) (r : TR) (t : Tm) (h : TV w r t) (ho : t.Ok) (hm : t.mayB = true) (hk : t.kind = 2) : Calls Tryz.prog 55 #[.agg #[.int .i64 r.k, .int .i64 r.n, .bool r.g, .slice r.A r.ln r.lc, .int .u64 r.u, .string r.s, .slice r.B r.m r.d]] w (IntP w (sgn t.neg (Lm.val t.mag))) := by
  have hln : r.ln ≤ 1000 := by have := Ok.limbs h ho; omega
  have hmm := Lib.hid (may_mag hm hk)
  have I := (BxI.new h).below ((Below.refl _ _).alloc (Nat.le_refl _) (.cells #[.bool false, .slice none 0 0] 24))
  have hy := Box.new (w.alloc (.cells #[.int .i64 r.k, .int .i64 r.n, .bool r.g, .slice r.A r.ln r.lc, .int .u64 r.u, .string r.s, .slice r.B r.m r.d] 28)) (.bool false) (.slice none 0 0)
  rw [World.size_alloc] at hy
  have hW : ((w.alloc (.cells #[.int .i64 r.k, .int .i64 r.n, .bool r.g, .slice r.A r.ln r.lc, .int .u64 r.u, .string r.s, .slice r.B r.m r.d] 28)).alloc (.cells #[.bool false, .slice none 0 0] 24)).heap.size = w.heap.size + 2 := by simp
  rw [h.kind] at hk
  have HG := Lib.hid h.neg
  have HL := Lib.hid h.magLen
  have e1 : (r.k == 1) = false := by rw [hk]; rfl
  have e2 : (r.k == 2) = true := by rw [hk]; rfl
  clear hk
  go_enter Tryz.func55, Tryz.ntmps55
  go_wp2_with fail
  generalize (w.alloc (.cells #[.int .i64 r.k, .int .i64 r.n, .bool r.g, .slice r.A r.ln r.lc, .int .u64 r.u, .string r.s, .slice r.B r.m r.d] 28)).alloc (.cells #[.bool false, .slice none 0 0] 24) = W at *
  refine (mayTerm_any W r t I.tv ho).mono ?_
  rw [hm]
  rintro e w1 ⟨rfl, hb1⟩
  have I1 := I.below hb1
  have hy1 := hy.below' hb1
  have y2 := I1.bx.at.c2
  have y3 := I1.bx.at.c3
  have hsz1 : w.heap.size + 2 ≤ w1.heap.size := by rw [← hW]; exact hb1.size
  have hraw : Raw w1 r.A r.ln r.lc t.mag := ⟨I1.tv.flat.lim, I1.tv.flat.cap⟩
  clear I hy
  go_wp2_with fail
  refine (copied_any w1 r.g r.A r.ln r.lc t.mag hraw hln).mono ?_
  rintro e w2 ⟨A, c, rfl, hO, hb2⟩
  have I2 := I1.below hb2
  have hy2 := hy1.below' hb2
  have f0 := hy2.f0
  have f1 := hy2.f1
  have z0 := hy2.c0
  have z1 := hy2.c1
  clear y2 y3 I1 hy1
  go_wp2
  have hB := hy2.put2 (x' := .bool r.g) (y' := .slice A r.ln c)
  have hbl := (I2.be.setCell (p := ⟨w.heap.size + 1, 0, none⟩) (by simp only; omega) (.bool r.g)).setCell (p := ⟨w.heap.size + 1, 1, none⟩) (by simp only; omega) (.slice A r.ln c)
  have hO5 := (hO.setO (p := ⟨w.heap.size + 1, 0, none⟩) (by simp only; omega) (.bool r.g)).setO (p := ⟨w.heap.size + 1, 1, none⟩) (by simp only; omega) (.slice A r.ln c)
  clear z0 z1 f0 f1
  generalize (w2.setCell ⟨w.heap.size + 1, 0, none⟩ (.bool r.g)).setCell ⟨w.heap.size + 1, 1, none⟩ (.slice A r.ln c) = W5 at *
  have z0 := hB.c0
  have z1 := hB.c1
  have hN := nm_of_raw (g := t.neg) ⟨hO5.lim, hO5.cap.2⟩ hmm.out
  have hd := Lm.digits_val hO5.lim.2.2.1 (mayB_canon hmm.out)
  exact bodyPost_ret (v := .tuple #[.agg #[.bool r.g, .slice A r.ln c], .bool true]) (by simp [results, Tryz.results55, go_sem, z0, z1]) rfl ⟨r.g, A, r.ln, c, rfl, by rw [← HG.out]; exact hN.2, by rw [natAbs_sgn, hd]; exact hO5.mono (by omega), hbl⟩

set_option maxRecDepth 100000 in
set_option maxHeartbeats 4000000 in
theorem tnum_no (w : World) (r : TR) (t : Tm) (h : TV w r t) (ho : t.Ok) (hn : t.mayB = false ∨ (t.kind ≠ 1 ∧ t.kind ≠ 2)) : Calls Tryz.prog 55 #[.agg #[.int .i64 r.k, .int .i64 r.n, .bool r.g, .slice r.A r.ln r.lc, .int .u64 r.u, .string r.s, .slice r.B r.m r.d]] w (NonP w) := by
  have I := (BxI.new h).below ((Below.refl _ _).alloc (Nat.le_refl _) (.cells #[.bool false, .slice none 0 0] 24))
  have hy := Box.new (w.alloc (.cells #[.int .i64 r.k, .int .i64 r.n, .bool r.g, .slice r.A r.ln r.lc, .int .u64 r.u, .string r.s, .slice r.B r.m r.d] 28)) (.bool false) (.slice none 0 0)
  rw [World.size_alloc] at hy
  rw [h.kind] at hn
  go_enter Tryz.func55, Tryz.ntmps55
  by_cases k1 : r.k = 1
  · have e1 : (r.k == 1) = true := by rw [k1]; rfl
    have e2 : (r.k == 2) = false := by rw [k1]; rfl
    have hm : t.mayB = false := hn.resolve_right (fun h => h.1 k1)
    clear hn k1
    go_wp2_with fail
    generalize (w.alloc (.cells #[.int .i64 r.k, .int .i64 r.n, .bool r.g, .slice r.A r.ln r.lc, .int .u64 r.u, .string r.s, .slice r.B r.m r.d] 28)).alloc (.cells #[.bool false, .slice none 0 0] 24) = W at *
    refine (mayTerm_any W r t I.tv ho).mono ?_
    rw [hm]
    rintro e w1 ⟨rfl, hb1⟩
    have I1 := I.below hb1
    have hy1 := hy.below' hb1
    have y0 := I1.bx.at.c0
    have z0 := hy1.c0
    have z1 := hy1.c1
    have f0 := hy1.f0
    have f1 := hy1.f1
    clear I hy
    go_wp2
    have hB := hy1.put2 (x' := .bool false) (y' := .slice none 0 0)
    have hbl := (I1.be.setCell (p := ⟨w.heap.size + 1, 0, none⟩) (by simp only; omega) (.bool false)).setCell (p := ⟨w.heap.size + 1, 1, none⟩) (by simp only; omega) (.slice none 0 0)
    clear z0 z1 f0 f1
    generalize (w1.setCell ⟨w.heap.size + 1, 0, none⟩ (.bool false)).setCell ⟨w.heap.size + 1, 1, none⟩ (.slice none 0 0) = W5 at *
    have z0 := hB.c0
    have z1 := hB.c1
    exact bodyPost_ret (v := .tuple #[.agg #[.bool false, .slice none 0 0], .bool false]) (by simp [results, Tryz.results55, go_sem, z0, z1]) rfl ⟨rfl, hbl⟩
  · have e1 : (r.k == 1) = false := beq_eq_false_iff_ne.2 k1
    by_cases k2 : r.k = 2
    · have e2 : (r.k == 2) = true := by rw [k2]; rfl
      have hm : t.mayB = false := hn.resolve_right (fun h => h.2 k2)
      clear hn k1 k2
      go_wp2_with fail
      generalize (w.alloc (.cells #[.int .i64 r.k, .int .i64 r.n, .bool r.g, .slice r.A r.ln r.lc, .int .u64 r.u, .string r.s, .slice r.B r.m r.d] 28)).alloc (.cells #[.bool false, .slice none 0 0] 24) = W at *
      refine (mayTerm_any W r t I.tv ho).mono ?_
      rw [hm]
      rintro e w1 ⟨rfl, hb1⟩
      have I1 := I.below hb1
      have hy1 := hy.below' hb1
      have z0 := hy1.c0
      have z1 := hy1.c1
      have f0 := hy1.f0
      have f1 := hy1.f1
      clear I hy
      go_wp2
      have hB := hy1.put2 (x' := .bool false) (y' := .slice none 0 0)
      have hbl := (I1.be.setCell (p := ⟨w.heap.size + 1, 0, none⟩) (by simp only; omega) (.bool false)).setCell (p := ⟨w.heap.size + 1, 1, none⟩) (by simp only; omega) (.slice none 0 0)
      clear z0 z1 f0 f1
      generalize (w1.setCell ⟨w.heap.size + 1, 0, none⟩ (.bool false)).setCell ⟨w.heap.size + 1, 1, none⟩ (.slice none 0 0) = W5 at *
      have z0 := hB.c0
      have z1 := hB.c1
      exact bodyPost_ret (v := .tuple #[.agg #[.bool false, .slice none 0 0], .bool false]) (by simp [results, Tryz.results55, go_sem, z0, z1]) rfl ⟨rfl, hbl⟩
    · have e2 : (r.k == 2) = false := beq_eq_false_iff_ne.2 k2
      clear hn k1 k2
      go_wp2
      exact bodyPost_ret (v := .tuple #[.agg #[.bool false, .slice none 0 0], .bool false]) (by simp [results, Tryz.results55, go_sem]) rfl ⟨rfl, I.be⟩

set_option maxRecDepth 100000 in
theorem intO_top {t : Tm} {z : Int} {w : World} {r : TR} (h : TV w r t) (hz : t.intO = some z) : z.natAbs < Lm.top := by
  unfold Tm.intO at hz
  split at hz
  next hm =>
    split at hz
    next hk =>
      obtain rfl := Option.some.inj hz
      have h1 := h.flat.n0
      have h2 := h.flat.n1
      rw [h.num]
      have := Lm.top_ge
      omega
    next =>
      split at hz
      next hk =>
        obtain rfl := Option.some.inj hz
        exact top_of_may h.flat.lim.2.2.1 (may_mag hm hk)
      next => simp at hz
  next => simp at hz
set_option maxRecDepth 100000 in
theorem tnum_some (w : World) (r : TR) (t : Tm) (z : Int) (h : TV w r t) (ho : t.Ok) (hz : t.intO = some z) : Calls Tryz.prog 55 #[.agg #[.int .i64 r.k, .int .i64 r.n, .bool r.g, .slice r.A r.ln r.lc, .int .u64 r.u, .string r.s, .slice r.B r.m r.d]] w (IntP w z) := by
  unfold Tm.intO at hz
  split at hz
  next hm =>
    split at hz
    next hk => obtain rfl := Option.some.inj hz; exact tnum_int w r t h ho hm hk
    next =>
      split at hz
      next hk => obtain rfl := Option.some.inj hz; exact tnum_big w r t h ho hm hk
      next => simp at hz
  next => simp at hz
set_option maxRecDepth 100000 in
theorem tnum_none (w : World) (r : TR) (t : Tm) (h : TV w r t) (ho : t.Ok) (hz : t.intO = none) : Calls Tryz.prog 55 #[.agg #[.int .i64 r.k, .int .i64 r.n, .bool r.g, .slice r.A r.ln r.lc, .int .u64 r.u, .string r.s, .slice r.B r.m r.d]] w (NonP w) := by
  refine tnum_no w r t h ho ?_
  unfold Tm.intO at hz
  split at hz
  next hm =>
    split at hz
    next => simp at hz
    next hk =>
      split at hz
      next => simp at hz
      next hk' => exact .inr ⟨hk, hk'⟩
  next hm => exact .inl (by simpa using hm)
end Go.Proofs.YtompimbeaeinbaaGreat
