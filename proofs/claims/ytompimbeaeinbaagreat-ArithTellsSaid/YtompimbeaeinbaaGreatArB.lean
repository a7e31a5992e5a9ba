/-
  PACKAGE arith: integer, float, ofFloats, ofIntegers.
-/
import Derived.Test.YtompimbeaeinbaaGreatArA
namespace Go.Proofs.YtompimbeaeinbaaGreat
open Go.RowKit

/-- A call panics with the reason BadArith. -/
def BadP (w : World) (e : Ending) (w' : World) : Prop := e = .panicked [{ v := .iface 38 (.int .i64 1), recovered := false }] ∧ Below w.heap.size w w'
/-- A call leaves this integer. -/
def ZP (w : World) (z : Int) (e : Ending) (w' : World) : Prop := ∃ s A n c, e = .returned (.agg #[.bool s, .slice A n c]) ∧ Hid (s = decide (z < 0)) ∧ Own w' w.heap.size A n c (Lm.digits z.natAbs) ∧ Below w.heap.size w w'

set_option maxRecDepth 100000 in
set_option maxHeartbeats 4000000 in
theorem integer_none (w : World) (r : TR) (t : Tm) (h : TV w r t) (ho : t.Ok) (hz : t.intO = none) : Calls Tryz.prog 30 #[.agg #[.int .i64 r.k, .int .i64 r.n, .bool r.g, .slice r.A r.ln r.lc, .int .u64 r.u, .string r.s, .slice r.B r.m r.d]] w (BadP w) := by
  have I := (BxI.new h).below ((Below.refl _ _).alloc (Nat.le_refl _) (.cells #[.bool false, .slice none 0 0] 24))
  go_enter Tryz.func30, Tryz.ntmps30
  go_wp2_with fail
  generalize (w.alloc (.cells #[.int .i64 r.k, .int .i64 r.n, .bool r.g, .slice r.A r.ln r.lc, .int .u64 r.u, .string r.s, .slice r.B r.m r.d] 28)).alloc (.cells #[.bool false, .slice none 0 0] 24) = W at *
  refine (tnum_none W r t I.tv ho hz).mono ?_
  rintro e w1 ⟨rfl, hb1⟩
  have I1 := I.below hb1
  go_wp2
  exact ⟨rfl, rfl, I1.be.alloc I1.be.size _⟩

set_option maxRecDepth 100000 in
set_option maxHeartbeats 4000000 in
theorem integer_some (w : World) (r : TR) (t : Tm) (z : Int) (h : TV w r t) (ho : t.Ok) (hz : t.intO = some z) : Calls Tryz.prog 30 #[.agg #[.int .i64 r.k, .int .i64 r.n, .bool r.g, .slice r.A r.ln r.lc, .int .u64 r.u, .string r.s, .slice r.B r.m r.d]] w (ZP w z) := by
  have I := (BxI.new h).below ((Below.refl _ _).alloc (Nat.le_refl _) (.cells #[.bool false, .slice none 0 0] 24))
  have hy := Box.new (w.alloc (.cells #[.int .i64 r.k, .int .i64 r.n, .bool r.g, .slice r.A r.ln r.lc, .int .u64 r.u, .string r.s, .slice r.B r.m r.d] 28)) (.bool false) (.slice none 0 0)
  rw [World.size_alloc] at hy
  have hW : ((w.alloc (.cells #[.int .i64 r.k, .int .i64 r.n, .bool r.g, .slice r.A r.ln r.lc, .int .u64 r.u, .string r.s, .slice r.B r.m r.d] 28)).alloc (.cells #[.bool false, .slice none 0 0] 24)).heap.size = w.heap.size + 2 := by simp
  go_enter Tryz.func30, Tryz.ntmps30
  go_wp2_with fail
  generalize (w.alloc (.cells #[.int .i64 r.k, .int .i64 r.n, .bool r.g, .slice r.A r.ln r.lc, .int .u64 r.u, .string r.s, .slice r.B r.m r.d] 28)).alloc (.cells #[.bool false, .slice none 0 0] 24) = W at *
  refine (tnum_some W r t z I.tv ho hz).mono ?_
  rintro e w1 ⟨s, A, n, c, rfl, hss, hO, hb1⟩
  have I1 := I.below hb1
  have hy1 := hy.below' hb1
  have hsz1 : w.heap.size + 2 ≤ w1.heap.size := by rw [← hW]; exact hb1.size
  have hlt : w.heap.size + 1 < w1.heap.size := by omega
  have z0 := hy1.c0
  have z1 := hy1.c1
  have f0 := hy1.f0
  have f1 := hy1.f1
  go_wp2
  have hal := (Below.refl ((w1.setCell ⟨w.heap.size + 1, 0, none⟩ (.bool s)).setCell ⟨w.heap.size + 1, 1, none⟩ (.slice A n c)).heap.size _).alloc (Nat.le_refl _) (.cells #[.bool s, .slice A n c] 24)
  have hB := (hy1.put2 (x' := .bool s) (y' := .slice A n c)).below' hal
  have hbl := (I1.be.setCell (p := ⟨w.heap.size + 1, 0, none⟩) (by simp only; omega) (.bool s)).setCell (p := ⟨w.heap.size + 1, 1, none⟩) (by simp only; omega) (.slice A n c)
  have hbl5 := hbl.trans (hal.mono hbl.size)
  have hO5 := ((hO.setO (p := ⟨w.heap.size + 1, 0, none⟩) (by simp only; omega) (.bool s)).setO (p := ⟨w.heap.size + 1, 1, none⟩) (by simp only; omega) (.slice A n c)).below hal
  clear z0 z1 f0 f1 hal hbl
  generalize ((w1.setCell ⟨w.heap.size + 1, 0, none⟩ (.bool s)).setCell ⟨w.heap.size + 1, 1, none⟩ (.slice A n c)).alloc (.cells #[.bool s, .slice A n c] 24) = W5 at *
  have z0 := hB.c0
  have z1 := hB.c1
  exact bodyPost_ret (v := .agg #[.bool s, .slice A n c]) (by simp [results, Tryz.results30, go_sem, z0, z1]) rfl ⟨s, A, n, c, rfl, hss, hO5.mono (by omega), hbl5⟩

/-- The float that is nearest to an integer. -/
noncomputable def fR (z : Int) : Int := (ofR (decide (z < 0)) (Lm.digits z.natAbs) : Nat)
/-- The float that a term is, or that is nearest to it. -/
noncomputable def Tm.fltO (t : Tm) : Option Int := if t.mayB = true ∧ t.kind = 3 then some t.bits else t.intO.map fR

set_option maxRecDepth 100000 in
set_option maxHeartbeats 4000000 in
theorem float_is (w : World) (r : TR) (t : Tm) (h : TV w r t) (ho : t.Ok) (hm : t.mayB = true) (hk : t.kind = 3) : Calls Tryz.prog 28 #[.agg #[.int .i64 r.k, .int .i64 r.n, .bool r.g, .slice r.A r.ln r.lc, .int .u64 r.u, .string r.s, .slice r.B r.m r.d]] w fun e w' => e = .returned (.int .u64 t.bits) ∧ Below w.heap.size w w' := by
  have I := BxI.new h
  rw [h.kind] at hk
  rw [h.bits]
  have e1 : (r.k == 3) = true := by rw [hk]; rfl
  clear hk
  go_enter Tryz.func28, Tryz.ntmps28
  go_wp2_with fail
  generalize w.alloc (.cells #[.int .i64 r.k, .int .i64 r.n, .bool r.g, .slice r.A r.ln r.lc, .int .u64 r.u, .string r.s, .slice r.B r.m r.d] 28) = W at *
  refine (mayTerm_any W r t I.tv ho).mono ?_
  rw [hm]
  rintro e w1 ⟨rfl, hb1⟩
  have I1 := I.below hb1
  have y4 := I1.bx.at.c4
  go_wp2
  go_ret
  exact ⟨rfl, I1.be⟩
set_option maxRecDepth 100000 in
theorem Tm.intO_no {t : Tm} (h : t.mayB = false) : t.intO = none := by unfold Tm.intO; rw [if_neg (by rw [h]; decide)]

set_option maxRecDepth 100000 in
set_option maxHeartbeats 4000000 in
theorem float_some (w : World) (r : TR) (t : Tm) (z : Int) (h : TV w r t) (ho : t.Ok) (hk : t.kind ≠ 3) (hz : t.intO = some z) : Calls Tryz.prog 28 #[.agg #[.int .i64 r.k, .int .i64 r.n, .bool r.g, .slice r.A r.ln r.lc, .int .u64 r.u, .string r.s, .slice r.B r.m r.d]] w fun e w' => e = .returned (.int .u64 (fR z)) ∧ Below w.heap.size w w' := by
  have I := BxI.new h
  rw [h.kind] at hk
  have e1 : (r.k == 3) = false := beq_eq_false_iff_ne.2 hk
  clear hk
  go_enter Tryz.func28, Tryz.ntmps28
  go_wp2_with fail
  generalize w.alloc (.cells #[.int .i64 r.k, .int .i64 r.n, .bool r.g, .slice r.A r.ln r.lc, .int .u64 r.u, .string r.s, .slice r.B r.m r.d] 28) = W at *
  refine (integer_some W r t z I.tv ho hz).mono ?_
  rintro e w1 ⟨s, A, n, c, rfl, hss, hO, hb1⟩
  have I1 := I.below hb1
  go_wp2_with fail
  refine (of_flt w1 s A n c _ ⟨hO.lim, hO.cap.2⟩).mono ?_
  rintro e w2 ⟨rfl, hb2⟩
  have I2 := I1.below hb2
  go_wp2
  go_ret
  exact ⟨by rw [hss.out]; rfl, I2.be⟩

set_option maxRecDepth 100000 in
set_option maxHeartbeats 4000000 in
theorem float_none (w : World) (r : TR) (t : Tm) (h : TV w r t) (ho : t.Ok) (hk : t.mayB = false ∨ t.kind ≠ 3) (hz : t.intO = none) : Calls Tryz.prog 28 #[.agg #[.int .i64 r.k, .int .i64 r.n, .bool r.g, .slice r.A r.ln r.lc, .int .u64 r.u, .string r.s, .slice r.B r.m r.d]] w (BadP w) := by
  have I := BxI.new h
  rw [h.kind] at hk
  go_enter Tryz.func28, Tryz.ntmps28
  by_cases k3 : r.k = 3
  · have e1 : (r.k == 3) = true := by rw [k3]; rfl
    have hm := hk.resolve_right (fun h => h k3)
    clear hk k3
    go_wp2_with fail
    generalize w.alloc (.cells #[.int .i64 r.k, .int .i64 r.n, .bool r.g, .slice r.A r.ln r.lc, .int .u64 r.u, .string r.s, .slice r.B r.m r.d] 28) = W at *
    refine (mayTerm_any W r t I.tv ho).mono ?_
    rw [hm]
    rintro e w1 ⟨rfl, hb1⟩
    have I1 := I.below hb1
    have y0 := I1.bx.at.c0; have y1 := I1.bx.at.c1; have y2 := I1.bx.at.c2; have y3 := I1.bx.at.c3; have y4 := I1.bx.at.c4; have y5 := I1.bx.at.c5; have y6 := I1.bx.at.c6
    go_wp2_with fail
    refine (integer_none w1 r t I1.tv ho hz).mono ?_
    rintro e w2 ⟨rfl, hb2⟩
    have I2 := I1.below hb2
    go_wp2
    exact ⟨rfl, rfl, I2.be⟩
  · have e1 : (r.k == 3) = false := beq_eq_false_iff_ne.2 k3
    clear hk k3
    go_wp2_with fail
    generalize w.alloc (.cells #[.int .i64 r.k, .int .i64 r.n, .bool r.g, .slice r.A r.ln r.lc, .int .u64 r.u, .string r.s, .slice r.B r.m r.d] 28) = W at *
    refine (integer_none W r t I.tv ho hz).mono ?_
    rintro e w1 ⟨rfl, hb1⟩
    have I1 := I.below hb1
    go_wp2
    exact ⟨rfl, rfl, I1.be⟩

set_option maxRecDepth 100000 in
theorem float_yes (w : World) (r : TR) (t : Tm) (x : Int) (h : TV w r t) (ho : t.Ok) (hx : t.fltO = some x) : Calls Tryz.prog 28 #[.agg #[.int .i64 r.k, .int .i64 r.n, .bool r.g, .slice r.A r.ln r.lc, .int .u64 r.u, .string r.s, .slice r.B r.m r.d]] w fun e w' => e = .returned (.int .u64 x) ∧ Below w.heap.size w w' := by
  unfold Tm.fltO at hx
  split at hx
  next hm => obtain rfl := Option.some.inj hx; exact float_is w r t h ho hm.1 hm.2
  next hm =>
    cases hz : t.intO with
    | none => rw [hz] at hx; simp at hx
    | some z =>
      rw [hz] at hx
      obtain rfl := Option.some.inj hx
      refine float_some w r t z h ho (fun hk => hm ⟨?_, hk⟩) hz
      cases hb : t.mayB with
      | true => rfl
      | false => rw [Tm.intO_no hb] at hz; simp at hz
set_option maxRecDepth 100000 in
theorem float_no (w : World) (r : TR) (t : Tm) (h : TV w r t) (ho : t.Ok) (hx : t.fltO = none) : Calls Tryz.prog 28 #[.agg #[.int .i64 r.k, .int .i64 r.n, .bool r.g, .slice r.A r.ln r.lc, .int .u64 r.u, .string r.s, .slice r.B r.m r.d]] w (BadP w) := by
  unfold Tm.fltO at hx
  split at hx
  next hm => simp at hx
  next hm =>
    cases hz : t.intO with
    | some z => rw [hz] at hx; simp at hx
    | none =>
      refine float_none w r t h ho ?_ hz
      cases hb : t.mayB with
      | false => exact .inl rfl
      | true => exact .inr (fun hk => hm ⟨hb, hk⟩)
end Go.Proofs.YtompimbeaeinbaaGreat
