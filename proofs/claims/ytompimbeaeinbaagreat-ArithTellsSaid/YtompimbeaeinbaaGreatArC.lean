/-
  PACKAGE arith: ofFloats, ofIntegers.
-/
import Derived.Test.YtompimbeaeinbaaGreatArB
namespace Go.Proofs.YtompimbeaeinbaaGreat
open Go.RowKit

/-- What an operation on floats comes to. -/
def flO (op x y : Int) : Option Int := if op = 5 then some (opI .add x y) else if op = 6 then some (opI .sub x y) else if op = 7 then some (opI .mul x y) else if op = 8 then some (opI .quo x y) else none
def ifFits (z : Int) : Option Int := if fits z then some z else none
/-- What an operation on integers comes to. -/
def whO (op x y : Int) : Option Int := if op = 5 then ifFits (x + y) else if op = 6 then ifFits (x - y) else if op = 7 then ifFits (x * y) else none

set_option maxRecDepth 100000 in
set_option maxHeartbeats 4000000 in
theorem ofFloats_some (w : World) (op x y v : Int) (hv : flO op x y = some v) : Calls Tryz.prog 27 #[.int .i64 op, .int .u64 x, .int .u64 y] w fun e w' => e = .returned (.int .u64 v) ∧ Below w.heap.size w w' := by
  unfold flO at hv
  go_enter Tryz.func27, Tryz.ntmps27
  by_cases h5 : op = 5
  · rw [if_pos h5] at hv
    obtain rfl := Option.some.inj hv
    subst h5
    go_wp2_with fail
    refine (fAdd_any w x y).mono ?_
    rintro e v ⟨rfl, hb⟩
    go_wp2
    go_ret
    exact ⟨rfl, hb⟩
  rw [if_neg h5] at hv
  have e5 : (op == 5) = false := beq_eq_false_iff_ne.2 h5
  by_cases h6 : op = 6
  · rw [if_pos h6] at hv
    obtain rfl := Option.some.inj hv
    subst h6
    go_wp2_with fail
    refine (fSub_any w x y).mono ?_
    rintro e v ⟨rfl, hb⟩
    go_wp2
    go_ret
    exact ⟨rfl, hb⟩
  rw [if_neg h6] at hv
  have e6 : (op == 6) = false := beq_eq_false_iff_ne.2 h6
  by_cases h7 : op = 7
  · rw [if_pos h7] at hv
    obtain rfl := Option.some.inj hv
    subst h7
    go_wp2_with fail
    refine (fMul_any w x y).mono ?_
    rintro e v ⟨rfl, hb⟩
    go_wp2
    go_ret
    exact ⟨rfl, hb⟩
  rw [if_neg h7] at hv
  by_cases h8 : op = 8
  · rw [if_pos h8] at hv
    obtain rfl := Option.some.inj hv
    subst h8
    go_wp2_with fail
    refine (fDiv_any w x y).mono ?_
    rintro e v ⟨rfl, hb⟩
    go_wp2
    go_ret
    exact ⟨rfl, hb⟩
  rw [if_neg h8] at hv
  simp at hv

set_option maxRecDepth 100000 in
set_option maxHeartbeats 4000000 in
theorem ofFloats_none (w : World) (op x y : Int) (hv : flO op x y = none) : Calls Tryz.prog 27 #[.int .i64 op, .int .u64 x, .int .u64 y] w (BadP w) := by
  have h : op ≠ 5 ∧ op ≠ 6 ∧ op ≠ 7 ∧ op ≠ 8 := by
    unfold flO at hv
    refine ⟨?_, ?_, ?_, ?_⟩ <;> · intro h; subst h; simp at hv
  have e5 : (op == 5) = false := beq_eq_false_iff_ne.2 h.1
  have e6 : (op == 6) = false := beq_eq_false_iff_ne.2 h.2.1
  have e7 : (op == 7) = false := beq_eq_false_iff_ne.2 h.2.2.1
  have e8 : (op == 8) = false := beq_eq_false_iff_ne.2 h.2.2.2
  clear h hv
  go_enter Tryz.func27, Tryz.ntmps27
  go_wp2
  exact ⟨rfl, rfl, Below.refl _ _⟩
/-- A call leaves a term of its own that has no parts. -/
def MadeP (w : World) (t : Tm) (e : Ending) (w' : World) : Prop :=
  ∃ R : TR, e = .returned (.agg #[.int .i64 R.k, .int .i64 R.n, .bool R.g, .slice R.A R.ln R.lc, .int .u64 R.u, .string R.s, .slice R.B R.m R.d]) ∧ TV w' R t ∧ Own w' w.heap.size R.A R.ln R.lc t.mag ∧ R.m = 0 ∧ Below w.heap.size w w'
set_option maxRecDepth 100000 in
theorem Own.put7 {w : World} {base n c g : Nat} {A : Option Addr} {l : List Nat} (h : Own w base A n c l) (hg : g < base) (R : TR) : Own (put7 w g R) base A n c l :=
  ((((((h.setO (p := ⟨g, 0, none⟩) hg _).setO (p := ⟨g, 1, none⟩) hg _).setO (p := ⟨g, 2, none⟩) hg _).setO (p := ⟨g, 3, none⟩) hg _).setO (p := ⟨g, 4, none⟩) hg _).setO (p := ⟨g, 5, none⟩) hg _).setO (p := ⟨g, 6, none⟩) hg _
set_option maxRecDepth 100000 in
theorem ifFits_some {z v : Int} (h : ifFits z = some v) : v = z ∧ fits z = true := by
  unfold ifFits at h
  split at h
  next hf => exact ⟨(Option.some.inj h).symm, hf⟩
  next => simp at h
set_option maxRecDepth 100000 in
theorem ifFits_none {z : Int} (h : ifFits z = none) : fits z = false := by
  unfold ifFits at h
  split at h
  next => simp at h
  next hf => simpa using hf
set_option maxRecDepth 100000 in
theorem clip_fits {z : Int} (h : fits z = true) : clip z = z := by
  unfold clip; rw [if_pos (of_decide_eq_true h)]

set_option maxRecDepth 100000 in
set_option maxHeartbeats 4000000 in
theorem ofInt_add_no (w : World) (s s' : Bool) (A B : Option Addr) (n c m d : Nat) (x y : Int) (h : Nm w s A n c x) (h' : Nm w s' B m d y) (ht : x.natAbs < Lm.top) (ht' : y.natAbs < Lm.top) (hf : fits (x + y) = false) :
    Calls Tryz.prog 29 #[.int .i64 5, .agg #[.bool s, .slice A n c], .agg #[.bool s', .slice B m d]] w (BadP w) := by
  have b0 := ((((Below.refl w.heap.size w).alloc (Nat.le_refl _) (.cells #[.bool s, .slice A n c] 24)).alloc (by simp) (.cells #[.bool s', .slice B m d] 24)).alloc (by simp; omega) (.cells #[.int .i64 zeroR.k, .int .i64 zeroR.n, .bool zeroR.g, .slice zeroR.A zeroR.ln zeroR.lc, .int .u64 zeroR.u, .string zeroR.s, .slice zeroR.B zeroR.m zeroR.d] 28)).alloc (by simp; omega) (.cells #[.bool false, .slice none 0 0] 24)
  have hb := Box7.new ((w.alloc (.cells #[.bool s, .slice A n c] 24)).alloc (.cells #[.bool s', .slice B m d] 24)) zeroR
  have hx := hb.below ((Below.refl _ _).alloc (Nat.le_refl _) (.cells #[.bool false, .slice none 0 0] 24))
  have hy := Box.new (((w.alloc (.cells #[.bool s, .slice A n c] 24)).alloc (.cells #[.bool s', .slice B m d] 24)).alloc (.cells #[.int .i64 zeroR.k, .int .i64 zeroR.n, .bool zeroR.g, .slice zeroR.A zeroR.ln zeroR.lc, .int .u64 zeroR.u, .string zeroR.s, .slice zeroR.B zeroR.m zeroR.d] 28)) (.bool false) (.slice none 0 0)
  simp only [World.size_alloc] at hx hy
  have hW : ((((w.alloc (.cells #[.bool s, .slice A n c] 24)).alloc (.cells #[.bool s', .slice B m d] 24)).alloc (.cells #[.int .i64 zeroR.k, .int .i64 zeroR.n, .bool zeroR.g, .slice zeroR.A zeroR.ln zeroR.lc, .int .u64 zeroR.u, .string zeroR.s, .slice zeroR.B zeroR.m zeroR.d] 28)).alloc (.cells #[.bool false, .slice none 0 0] 24)).heap.size = w.heap.size + 4 := by simp
  clear hb
  go_enter Tryz.func29, Tryz.ntmps29
  go_wp2_with fail
  generalize ((((w.alloc (.cells #[.bool s, .slice A n c] 24)).alloc (.cells #[.bool s', .slice B m d] 24)).alloc (.cells #[.int .i64 zeroR.k, .int .i64 zeroR.n, .bool zeroR.g, .slice zeroR.A zeroR.ln zeroR.lc, .int .u64 zeroR.u, .string zeroR.s, .slice zeroR.B zeroR.m zeroR.d] 28)).alloc (.cells #[.bool false, .slice none 0 0] 24)) = W at *
  refine (add_z W s s' A B n c m d x y (h.below b0) (h'.below b0) ht ht').mono ?_
  rw [hf]
  rintro e w1 ⟨V, rfl, ⟨s1, A1, n1, c1, rfl, hs, hO⟩, hb1⟩
  have hy1 := hy.below' hb1
  have b1 := b0.trans (hb1.mono b0.size)
  have z0 := hy1.c0
  have z1 := hy1.c1
  have f0 := hy1.f0
  have f1 := hy1.f1
  clear hx hy b0
  go_wp2
  exact ⟨rfl, rfl, (b1.setCell (p := ⟨w.heap.size + 1 + 1 + 1, 0, none⟩) (by simp only; omega) _).setCell (p := ⟨w.heap.size + 1 + 1 + 1, 1, none⟩) (by simp only; omega) _⟩
set_option maxRecDepth 100000 in
set_option maxHeartbeats 4000000 in
theorem ofInt_add (w : World) (s s' : Bool) (A B : Option Addr) (n c m d : Nat) (x y : Int) (h : Nm w s A n c x) (h' : Nm w s' B m d y) (ht : x.natAbs < Lm.top) (ht' : y.natAbs < Lm.top) (hf : fits (x + y) = true) :
    Calls Tryz.prog 29 #[.int .i64 5, .agg #[.bool s, .slice A n c], .agg #[.bool s', .slice B m d]] w (MadeP w (intT (x + y))) := by
  have htop : (x + y).natAbs < Lm.top := of_decide_eq_true hf
  have hlen := (Lm.top_iff _).2 htop
  have b0 := ((((Below.refl w.heap.size w).alloc (Nat.le_refl _) (.cells #[.bool s, .slice A n c] 24)).alloc (by simp) (.cells #[.bool s', .slice B m d] 24)).alloc (by simp; omega) (.cells #[.int .i64 zeroR.k, .int .i64 zeroR.n, .bool zeroR.g, .slice zeroR.A zeroR.ln zeroR.lc, .int .u64 zeroR.u, .string zeroR.s, .slice zeroR.B zeroR.m zeroR.d] 28)).alloc (by simp; omega) (.cells #[.bool false, .slice none 0 0] 24)
  have hb := Box7.new ((w.alloc (.cells #[.bool s, .slice A n c] 24)).alloc (.cells #[.bool s', .slice B m d] 24)) zeroR
  have hx := hb.below ((Below.refl _ _).alloc (Nat.le_refl _) (.cells #[.bool false, .slice none 0 0] 24))
  have hy := Box.new (((w.alloc (.cells #[.bool s, .slice A n c] 24)).alloc (.cells #[.bool s', .slice B m d] 24)).alloc (.cells #[.int .i64 zeroR.k, .int .i64 zeroR.n, .bool zeroR.g, .slice zeroR.A zeroR.ln zeroR.lc, .int .u64 zeroR.u, .string zeroR.s, .slice zeroR.B zeroR.m zeroR.d] 28)) (.bool false) (.slice none 0 0)
  simp only [World.size_alloc] at hx hy
  have hW : ((((w.alloc (.cells #[.bool s, .slice A n c] 24)).alloc (.cells #[.bool s', .slice B m d] 24)).alloc (.cells #[.int .i64 zeroR.k, .int .i64 zeroR.n, .bool zeroR.g, .slice zeroR.A zeroR.ln zeroR.lc, .int .u64 zeroR.u, .string zeroR.s, .slice zeroR.B zeroR.m zeroR.d] 28)).alloc (.cells #[.bool false, .slice none 0 0] 24)).heap.size = w.heap.size + 4 := by simp
  clear hb
  go_enter Tryz.func29, Tryz.ntmps29
  go_wp2_with fail
  generalize ((((w.alloc (.cells #[.bool s, .slice A n c] 24)).alloc (.cells #[.bool s', .slice B m d] 24)).alloc (.cells #[.int .i64 zeroR.k, .int .i64 zeroR.n, .bool zeroR.g, .slice zeroR.A zeroR.ln zeroR.lc, .int .u64 zeroR.u, .string zeroR.s, .slice zeroR.B zeroR.m zeroR.d] 28)).alloc (.cells #[.bool false, .slice none 0 0] 24)) = W at *
  refine (add_z W s s' A B n c m d x y (h.below b0) (h'.below b0) ht ht').mono ?_
  rw [hf, clip_fits hf]
  rintro e w1 ⟨V, rfl, ⟨s1, A1, n1, c1, rfl, hs, hO⟩, hb1⟩
  have hx1 := hx.below hb1
  have hy1 := hy.below' hb1
  have b1 := b0.trans (hb1.mono b0.size)
  have hsz1 : w.heap.size + 4 ≤ w1.heap.size := by rw [← hW]; exact hb1.size
  have z0 := hy1.c0
  have z1 := hy1.c1
  have f0 := hy1.f0
  have f1 := hy1.f1
  have hn : n1 ≤ 1000 := by rw [← hO.2.1]; omega
  clear hx hy b0
  go_wp2_with fail
  have hO2 := (hO.setO (p := ⟨w.heap.size + 1 + 1 + 1, 0, none⟩) (by simp only; omega) (.bool s1)).setO (p := ⟨w.heap.size + 1 + 1 + 1, 1, none⟩) (by simp only; omega) (.slice A1 n1 c1)
  have hx2 := hx1.setO (g' := w.heap.size + 1 + 1 + 1) (by omega) 0 (.bool s1)
  have hx3 := hx2.setO (g' := w.heap.size + 1 + 1 + 1) (by omega) 1 (.slice A1 n1 c1)
  have b2 := (b1.setCell (p := ⟨w.heap.size + 1 + 1 + 1, 0, none⟩) (by simp only; omega) (.bool s1)).setCell (p := ⟨w.heap.size + 1 + 1 + 1, 1, none⟩) (by simp only; omega) (.slice A1 n1 c1)
  have hsz2 : ((w1.setCell ⟨w.heap.size + 1 + 1 + 1, 0, none⟩ (.bool s1)).setCell ⟨w.heap.size + 1 + 1 + 1, 1, none⟩ (.slice A1 n1 c1)).heap.size = w1.heap.size := by simp
  clear z0 z1 f0 f1 hx2
  generalize (w1.setCell ⟨w.heap.size + 1 + 1 + 1, 0, none⟩ (.bool s1)).setCell ⟨w.heap.size + 1 + 1 + 1, 1, none⟩ (.slice A1 n1 c1) = W2 at *
  refine (ofNum_any W2 s1 A1 n1 c1 _ ⟨hO2.lim, hO2.cap.2⟩ hn).mono ?_
  rintro e w3 ⟨R, rfl, hT, hO3, hm0, hb3⟩
  rw [hs.out] at hT hO3
  have hT' : TV w3 R (intT (x + y)) := hT
  have hO4 : Own w3 W2.heap.size R.A R.ln R.lc (intT (x + y)).mag := hO3
  have tS := Lib.hid (show TVS (fun b => w.heap.size + 4 ≤ b) w3 R (intT (x + y)) from TVS.leafy hT' (fun _ a e => by rw [e] at hO4; have := (World.ownsRow.lt hO4.2.2 a.block rfl).1; omega) hm0)
  have HO := Lib.hid hO4
  have HM := Lib.hid hm0
  clear hm0
  have hx4 := hx3.below hb3
  have b3 := b2.trans (hb3.mono b2.size)
  have hsz3 : w.heap.size + 4 ≤ w3.heap.size := by have := hb3.size; omega
  generalize mayB s1 (Lm.digits (x + y).natAbs) = ok
  clear hT hT' hO3 hO4 hx1 hx3 hy1 hO2 hO hs
  have f0 := hx4.frozen 0; have f1 := hx4.frozen 1; have f2 := hx4.frozen 2; have f3 := hx4.frozen 3; have f4 := hx4.frozen 4; have f5 := hx4.frozen 5; have f6 := hx4.frozen 6; have q0 := hx4.at.c0; have q1 := hx4.at.c1; have q2 := hx4.at.c2; have q3 := hx4.at.c3; have q4 := hx4.at.c4; have q5 := hx4.at.c5; have q6 := hx4.at.c6
  have hlt : w.heap.size + 1 + 1 < w3.heap.size := by omega
  go_wp2
  have C := ((hx4.put R).below ((Below.refl _ _).alloc (Nat.le_refl _) (.cells #[.int .i64 R.k, .int .i64 R.n, .bool R.g, .slice R.A R.ln R.lc, .int .u64 R.u, .string R.s, .slice R.B R.m R.d] 28))).at
  have hB5 := (b3.put7 (g := w.heap.size + 1 + 1) (by omega) R).alloc (by rw [put7_size]; omega) (.cells #[.int .i64 R.k, .int .i64 R.n, .bool R.g, .slice R.A R.ln R.lc, .int .u64 R.u, .string R.s, .slice R.B R.m R.d] 28)
  have hT5 := (tS.out.keep (((Keeps.refl _ w3).put7 (g := w.heap.size + 1 + 1) (by omega) R).alloc (.cells #[.int .i64 R.k, .int .i64 R.n, .bool R.g, .slice R.A R.ln R.lc, .int .u64 R.u, .string R.s, .slice R.B R.m R.d] 28))).tv
  have hO5 := (HO.out.put7 (g := w.heap.size + 1 + 1) (by omega) R).below ((Below.refl _ _).alloc (Nat.le_refl _) (.cells #[.int .i64 R.k, .int .i64 R.n, .bool R.g, .slice R.A R.ln R.lc, .int .u64 R.u, .string R.s, .slice R.B R.m R.d] 28))
  have y0 := C.c0; have y1 := C.c1; have y2 := C.c2; have y3 := C.c3; have y4 := C.c4; have y5 := C.c5; have y6 := C.c6
  clear C f0 f1 f2 f3 f4 f5 f6 q0 q1 q2 q3 q4 q5 q6 hx4 b3 tS HO
  change bodyPost _ _ _ _ _ ((put7 w3 (w.heap.size + 1 + 1) R).alloc (.cells #[.int .i64 R.k, .int .i64 R.n, .bool R.g, .slice R.A R.ln R.lc, .int .u64 R.u, .string R.s, .slice R.B R.m R.d] 28))
  generalize (put7 w3 (w.heap.size + 1 + 1) R).alloc (.cells #[.int .i64 R.k, .int .i64 R.n, .bool R.g, .slice R.A R.ln R.lc, .int .u64 R.u, .string R.s, .slice R.B R.m R.d] 28) = W5 at *
  exact bodyPost_ret (v := .agg #[.int .i64 R.k, .int .i64 R.n, .bool R.g, .slice R.A R.ln R.lc, .int .u64 R.u, .string R.s, .slice R.B R.m R.d]) (by simp [results, Tryz.results29, go_sem, y0, y1, y2, y3, y4, y5, y6]) rfl ⟨R, rfl, hT5, hO5.mono (by omega), HM.out, hB5⟩

set_option maxRecDepth 100000 in
set_option maxHeartbeats 4000000 in
theorem ofInt_sub_no (w : World) (s s' : Bool) (A B : Option Addr) (n c m d : Nat) (x y : Int) (h : Nm w s A n c x) (h' : Nm w s' B m d y) (ht : x.natAbs < Lm.top) (ht' : y.natAbs < Lm.top) (hf : fits (x - y) = false) :
    Calls Tryz.prog 29 #[.int .i64 6, .agg #[.bool s, .slice A n c], .agg #[.bool s', .slice B m d]] w (BadP w) := by
  have b0 := ((((Below.refl w.heap.size w).alloc (Nat.le_refl _) (.cells #[.bool s, .slice A n c] 24)).alloc (by simp) (.cells #[.bool s', .slice B m d] 24)).alloc (by simp; omega) (.cells #[.int .i64 zeroR.k, .int .i64 zeroR.n, .bool zeroR.g, .slice zeroR.A zeroR.ln zeroR.lc, .int .u64 zeroR.u, .string zeroR.s, .slice zeroR.B zeroR.m zeroR.d] 28)).alloc (by simp; omega) (.cells #[.bool false, .slice none 0 0] 24)
  have hb := Box7.new ((w.alloc (.cells #[.bool s, .slice A n c] 24)).alloc (.cells #[.bool s', .slice B m d] 24)) zeroR
  have hx := hb.below ((Below.refl _ _).alloc (Nat.le_refl _) (.cells #[.bool false, .slice none 0 0] 24))
  have hy := Box.new (((w.alloc (.cells #[.bool s, .slice A n c] 24)).alloc (.cells #[.bool s', .slice B m d] 24)).alloc (.cells #[.int .i64 zeroR.k, .int .i64 zeroR.n, .bool zeroR.g, .slice zeroR.A zeroR.ln zeroR.lc, .int .u64 zeroR.u, .string zeroR.s, .slice zeroR.B zeroR.m zeroR.d] 28)) (.bool false) (.slice none 0 0)
  simp only [World.size_alloc] at hx hy
  have hW : ((((w.alloc (.cells #[.bool s, .slice A n c] 24)).alloc (.cells #[.bool s', .slice B m d] 24)).alloc (.cells #[.int .i64 zeroR.k, .int .i64 zeroR.n, .bool zeroR.g, .slice zeroR.A zeroR.ln zeroR.lc, .int .u64 zeroR.u, .string zeroR.s, .slice zeroR.B zeroR.m zeroR.d] 28)).alloc (.cells #[.bool false, .slice none 0 0] 24)).heap.size = w.heap.size + 4 := by simp
  clear hb
  go_enter Tryz.func29, Tryz.ntmps29
  go_wp2_with fail
  generalize ((((w.alloc (.cells #[.bool s, .slice A n c] 24)).alloc (.cells #[.bool s', .slice B m d] 24)).alloc (.cells #[.int .i64 zeroR.k, .int .i64 zeroR.n, .bool zeroR.g, .slice zeroR.A zeroR.ln zeroR.lc, .int .u64 zeroR.u, .string zeroR.s, .slice zeroR.B zeroR.m zeroR.d] 28)).alloc (.cells #[.bool false, .slice none 0 0] 24)) = W at *
  refine (sub_z W s s' A B n c m d x y (h.below b0) (h'.below b0) ht ht').mono ?_
  rw [hf]
  rintro e w1 ⟨V, rfl, ⟨s1, A1, n1, c1, rfl, hs, hO⟩, hb1⟩
  have hy1 := hy.below' hb1
  have b1 := b0.trans (hb1.mono b0.size)
  have z0 := hy1.c0
  have z1 := hy1.c1
  have f0 := hy1.f0
  have f1 := hy1.f1
  clear hx hy b0
  go_wp2
  exact ⟨rfl, rfl, (b1.setCell (p := ⟨w.heap.size + 1 + 1 + 1, 0, none⟩) (by simp only; omega) _).setCell (p := ⟨w.heap.size + 1 + 1 + 1, 1, none⟩) (by simp only; omega) _⟩
set_option maxRecDepth 100000 in
set_option maxHeartbeats 4000000 in
theorem ofInt_sub (w : World) (s s' : Bool) (A B : Option Addr) (n c m d : Nat) (x y : Int) (h : Nm w s A n c x) (h' : Nm w s' B m d y) (ht : x.natAbs < Lm.top) (ht' : y.natAbs < Lm.top) (hf : fits (x - y) = true) :
    Calls Tryz.prog 29 #[.int .i64 6, .agg #[.bool s, .slice A n c], .agg #[.bool s', .slice B m d]] w (MadeP w (intT (x - y))) := by
  have htop : (x - y).natAbs < Lm.top := of_decide_eq_true hf
  have hlen := (Lm.top_iff _).2 htop
  have b0 := ((((Below.refl w.heap.size w).alloc (Nat.le_refl _) (.cells #[.bool s, .slice A n c] 24)).alloc (by simp) (.cells #[.bool s', .slice B m d] 24)).alloc (by simp; omega) (.cells #[.int .i64 zeroR.k, .int .i64 zeroR.n, .bool zeroR.g, .slice zeroR.A zeroR.ln zeroR.lc, .int .u64 zeroR.u, .string zeroR.s, .slice zeroR.B zeroR.m zeroR.d] 28)).alloc (by simp; omega) (.cells #[.bool false, .slice none 0 0] 24)
  have hb := Box7.new ((w.alloc (.cells #[.bool s, .slice A n c] 24)).alloc (.cells #[.bool s', .slice B m d] 24)) zeroR
  have hx := hb.below ((Below.refl _ _).alloc (Nat.le_refl _) (.cells #[.bool false, .slice none 0 0] 24))
  have hy := Box.new (((w.alloc (.cells #[.bool s, .slice A n c] 24)).alloc (.cells #[.bool s', .slice B m d] 24)).alloc (.cells #[.int .i64 zeroR.k, .int .i64 zeroR.n, .bool zeroR.g, .slice zeroR.A zeroR.ln zeroR.lc, .int .u64 zeroR.u, .string zeroR.s, .slice zeroR.B zeroR.m zeroR.d] 28)) (.bool false) (.slice none 0 0)
  simp only [World.size_alloc] at hx hy
  have hW : ((((w.alloc (.cells #[.bool s, .slice A n c] 24)).alloc (.cells #[.bool s', .slice B m d] 24)).alloc (.cells #[.int .i64 zeroR.k, .int .i64 zeroR.n, .bool zeroR.g, .slice zeroR.A zeroR.ln zeroR.lc, .int .u64 zeroR.u, .string zeroR.s, .slice zeroR.B zeroR.m zeroR.d] 28)).alloc (.cells #[.bool false, .slice none 0 0] 24)).heap.size = w.heap.size + 4 := by simp
  clear hb
  go_enter Tryz.func29, Tryz.ntmps29
  go_wp2_with fail
  generalize ((((w.alloc (.cells #[.bool s, .slice A n c] 24)).alloc (.cells #[.bool s', .slice B m d] 24)).alloc (.cells #[.int .i64 zeroR.k, .int .i64 zeroR.n, .bool zeroR.g, .slice zeroR.A zeroR.ln zeroR.lc, .int .u64 zeroR.u, .string zeroR.s, .slice zeroR.B zeroR.m zeroR.d] 28)).alloc (.cells #[.bool false, .slice none 0 0] 24)) = W at *
  refine (sub_z W s s' A B n c m d x y (h.below b0) (h'.below b0) ht ht').mono ?_
  rw [hf, clip_fits hf]
  rintro e w1 ⟨V, rfl, ⟨s1, A1, n1, c1, rfl, hs, hO⟩, hb1⟩
  have hx1 := hx.below hb1
  have hy1 := hy.below' hb1
  have b1 := b0.trans (hb1.mono b0.size)
  have hsz1 : w.heap.size + 4 ≤ w1.heap.size := by rw [← hW]; exact hb1.size
  have z0 := hy1.c0
  have z1 := hy1.c1
  have f0 := hy1.f0
  have f1 := hy1.f1
  have hn : n1 ≤ 1000 := by rw [← hO.2.1]; omega
  clear hx hy b0
  go_wp2_with fail
  have hO2 := (hO.setO (p := ⟨w.heap.size + 1 + 1 + 1, 0, none⟩) (by simp only; omega) (.bool s1)).setO (p := ⟨w.heap.size + 1 + 1 + 1, 1, none⟩) (by simp only; omega) (.slice A1 n1 c1)
  have hx2 := hx1.setO (g' := w.heap.size + 1 + 1 + 1) (by omega) 0 (.bool s1)
  have hx3 := hx2.setO (g' := w.heap.size + 1 + 1 + 1) (by omega) 1 (.slice A1 n1 c1)
  have b2 := (b1.setCell (p := ⟨w.heap.size + 1 + 1 + 1, 0, none⟩) (by simp only; omega) (.bool s1)).setCell (p := ⟨w.heap.size + 1 + 1 + 1, 1, none⟩) (by simp only; omega) (.slice A1 n1 c1)
  have hsz2 : ((w1.setCell ⟨w.heap.size + 1 + 1 + 1, 0, none⟩ (.bool s1)).setCell ⟨w.heap.size + 1 + 1 + 1, 1, none⟩ (.slice A1 n1 c1)).heap.size = w1.heap.size := by simp
  clear z0 z1 f0 f1 hx2
  generalize (w1.setCell ⟨w.heap.size + 1 + 1 + 1, 0, none⟩ (.bool s1)).setCell ⟨w.heap.size + 1 + 1 + 1, 1, none⟩ (.slice A1 n1 c1) = W2 at *
  refine (ofNum_any W2 s1 A1 n1 c1 _ ⟨hO2.lim, hO2.cap.2⟩ hn).mono ?_
  rintro e w3 ⟨R, rfl, hT, hO3, hm0, hb3⟩
  rw [hs.out] at hT hO3
  have hT' : TV w3 R (intT (x - y)) := hT
  have hO4 : Own w3 W2.heap.size R.A R.ln R.lc (intT (x - y)).mag := hO3
  have tS := Lib.hid (show TVS (fun b => w.heap.size + 4 ≤ b) w3 R (intT (x - y)) from TVS.leafy hT' (fun _ a e => by rw [e] at hO4; have := (World.ownsRow.lt hO4.2.2 a.block rfl).1; omega) hm0)
  have HO := Lib.hid hO4
  have HM := Lib.hid hm0
  clear hm0
  have hx4 := hx3.below hb3
  have b3 := b2.trans (hb3.mono b2.size)
  have hsz3 : w.heap.size + 4 ≤ w3.heap.size := by have := hb3.size; omega
  generalize mayB s1 (Lm.digits (x - y).natAbs) = ok
  clear hT hT' hO3 hO4 hx1 hx3 hy1 hO2 hO hs
  have f0 := hx4.frozen 0; have f1 := hx4.frozen 1; have f2 := hx4.frozen 2; have f3 := hx4.frozen 3; have f4 := hx4.frozen 4; have f5 := hx4.frozen 5; have f6 := hx4.frozen 6; have q0 := hx4.at.c0; have q1 := hx4.at.c1; have q2 := hx4.at.c2; have q3 := hx4.at.c3; have q4 := hx4.at.c4; have q5 := hx4.at.c5; have q6 := hx4.at.c6
  have hlt : w.heap.size + 1 + 1 < w3.heap.size := by omega
  go_wp2
  have C := ((hx4.put R).below ((Below.refl _ _).alloc (Nat.le_refl _) (.cells #[.int .i64 R.k, .int .i64 R.n, .bool R.g, .slice R.A R.ln R.lc, .int .u64 R.u, .string R.s, .slice R.B R.m R.d] 28))).at
  have hB5 := (b3.put7 (g := w.heap.size + 1 + 1) (by omega) R).alloc (by rw [put7_size]; omega) (.cells #[.int .i64 R.k, .int .i64 R.n, .bool R.g, .slice R.A R.ln R.lc, .int .u64 R.u, .string R.s, .slice R.B R.m R.d] 28)
  have hT5 := (tS.out.keep (((Keeps.refl _ w3).put7 (g := w.heap.size + 1 + 1) (by omega) R).alloc (.cells #[.int .i64 R.k, .int .i64 R.n, .bool R.g, .slice R.A R.ln R.lc, .int .u64 R.u, .string R.s, .slice R.B R.m R.d] 28))).tv
  have hO5 := (HO.out.put7 (g := w.heap.size + 1 + 1) (by omega) R).below ((Below.refl _ _).alloc (Nat.le_refl _) (.cells #[.int .i64 R.k, .int .i64 R.n, .bool R.g, .slice R.A R.ln R.lc, .int .u64 R.u, .string R.s, .slice R.B R.m R.d] 28))
  have y0 := C.c0; have y1 := C.c1; have y2 := C.c2; have y3 := C.c3; have y4 := C.c4; have y5 := C.c5; have y6 := C.c6
  clear C f0 f1 f2 f3 f4 f5 f6 q0 q1 q2 q3 q4 q5 q6 hx4 b3 tS HO
  change bodyPost _ _ _ _ _ ((put7 w3 (w.heap.size + 1 + 1) R).alloc (.cells #[.int .i64 R.k, .int .i64 R.n, .bool R.g, .slice R.A R.ln R.lc, .int .u64 R.u, .string R.s, .slice R.B R.m R.d] 28))
  generalize (put7 w3 (w.heap.size + 1 + 1) R).alloc (.cells #[.int .i64 R.k, .int .i64 R.n, .bool R.g, .slice R.A R.ln R.lc, .int .u64 R.u, .string R.s, .slice R.B R.m R.d] 28) = W5 at *
  exact bodyPost_ret (v := .agg #[.int .i64 R.k, .int .i64 R.n, .bool R.g, .slice R.A R.ln R.lc, .int .u64 R.u, .string R.s, .slice R.B R.m R.d]) (by simp [results, Tryz.results29, go_sem, y0, y1, y2, y3, y4, y5, y6]) rfl ⟨R, rfl, hT5, hO5.mono (by omega), HM.out, hB5⟩

set_option maxRecDepth 100000 in
set_option maxHeartbeats 4000000 in
theorem ofInt_mul_no (w : World) (s s' : Bool) (A B : Option Addr) (n c m d : Nat) (x y : Int) (h : Nm w s A n c x) (h' : Nm w s' B m d y) (ht : x.natAbs < Lm.top) (ht' : y.natAbs < Lm.top) (hf : fits (x * y) = false) :
    Calls Tryz.prog 29 #[.int .i64 7, .agg #[.bool s, .slice A n c], .agg #[.bool s', .slice B m d]] w (BadP w) := by
  have b0 := ((((Below.refl w.heap.size w).alloc (Nat.le_refl _) (.cells #[.bool s, .slice A n c] 24)).alloc (by simp) (.cells #[.bool s', .slice B m d] 24)).alloc (by simp; omega) (.cells #[.int .i64 zeroR.k, .int .i64 zeroR.n, .bool zeroR.g, .slice zeroR.A zeroR.ln zeroR.lc, .int .u64 zeroR.u, .string zeroR.s, .slice zeroR.B zeroR.m zeroR.d] 28)).alloc (by simp; omega) (.cells #[.bool false, .slice none 0 0] 24)
  have hb := Box7.new ((w.alloc (.cells #[.bool s, .slice A n c] 24)).alloc (.cells #[.bool s', .slice B m d] 24)) zeroR
  have hx := hb.below ((Below.refl _ _).alloc (Nat.le_refl _) (.cells #[.bool false, .slice none 0 0] 24))
  have hy := Box.new (((w.alloc (.cells #[.bool s, .slice A n c] 24)).alloc (.cells #[.bool s', .slice B m d] 24)).alloc (.cells #[.int .i64 zeroR.k, .int .i64 zeroR.n, .bool zeroR.g, .slice zeroR.A zeroR.ln zeroR.lc, .int .u64 zeroR.u, .string zeroR.s, .slice zeroR.B zeroR.m zeroR.d] 28)) (.bool false) (.slice none 0 0)
  simp only [World.size_alloc] at hx hy
  have hW : ((((w.alloc (.cells #[.bool s, .slice A n c] 24)).alloc (.cells #[.bool s', .slice B m d] 24)).alloc (.cells #[.int .i64 zeroR.k, .int .i64 zeroR.n, .bool zeroR.g, .slice zeroR.A zeroR.ln zeroR.lc, .int .u64 zeroR.u, .string zeroR.s, .slice zeroR.B zeroR.m zeroR.d] 28)).alloc (.cells #[.bool false, .slice none 0 0] 24)).heap.size = w.heap.size + 4 := by simp
  clear hb
  go_enter Tryz.func29, Tryz.ntmps29
  go_wp2_with fail
  generalize ((((w.alloc (.cells #[.bool s, .slice A n c] 24)).alloc (.cells #[.bool s', .slice B m d] 24)).alloc (.cells #[.int .i64 zeroR.k, .int .i64 zeroR.n, .bool zeroR.g, .slice zeroR.A zeroR.ln zeroR.lc, .int .u64 zeroR.u, .string zeroR.s, .slice zeroR.B zeroR.m zeroR.d] 28)).alloc (.cells #[.bool false, .slice none 0 0] 24)) = W at *
  refine (mul_z W s s' A B n c m d x y (h.below b0) (h'.below b0) ht ht').mono ?_
  rw [hf]
  rintro e w1 ⟨V, rfl, ⟨s1, A1, n1, c1, rfl, hs, hO⟩, hb1⟩
  have hy1 := hy.below' hb1
  have b1 := b0.trans (hb1.mono b0.size)
  have z0 := hy1.c0
  have z1 := hy1.c1
  have f0 := hy1.f0
  have f1 := hy1.f1
  clear hx hy b0
  go_wp2
  exact ⟨rfl, rfl, (b1.setCell (p := ⟨w.heap.size + 1 + 1 + 1, 0, none⟩) (by simp only; omega) _).setCell (p := ⟨w.heap.size + 1 + 1 + 1, 1, none⟩) (by simp only; omega) _⟩
set_option maxRecDepth 100000 in
set_option maxHeartbeats 4000000 in
theorem ofInt_mul (w : World) (s s' : Bool) (A B : Option Addr) (n c m d : Nat) (x y : Int) (h : Nm w s A n c x) (h' : Nm w s' B m d y) (ht : x.natAbs < Lm.top) (ht' : y.natAbs < Lm.top) (hf : fits (x * y) = true) :
    Calls Tryz.prog 29 #[.int .i64 7, .agg #[.bool s, .slice A n c], .agg #[.bool s', .slice B m d]] w (MadeP w (intT (x * y))) := by
  have htop : (x * y).natAbs < Lm.top := of_decide_eq_true hf
  have hlen := (Lm.top_iff _).2 htop
  have b0 := ((((Below.refl w.heap.size w).alloc (Nat.le_refl _) (.cells #[.bool s, .slice A n c] 24)).alloc (by simp) (.cells #[.bool s', .slice B m d] 24)).alloc (by simp; omega) (.cells #[.int .i64 zeroR.k, .int .i64 zeroR.n, .bool zeroR.g, .slice zeroR.A zeroR.ln zeroR.lc, .int .u64 zeroR.u, .string zeroR.s, .slice zeroR.B zeroR.m zeroR.d] 28)).alloc (by simp; omega) (.cells #[.bool false, .slice none 0 0] 24)
  have hb := Box7.new ((w.alloc (.cells #[.bool s, .slice A n c] 24)).alloc (.cells #[.bool s', .slice B m d] 24)) zeroR
  have hx := hb.below ((Below.refl _ _).alloc (Nat.le_refl _) (.cells #[.bool false, .slice none 0 0] 24))
  have hy := Box.new (((w.alloc (.cells #[.bool s, .slice A n c] 24)).alloc (.cells #[.bool s', .slice B m d] 24)).alloc (.cells #[.int .i64 zeroR.k, .int .i64 zeroR.n, .bool zeroR.g, .slice zeroR.A zeroR.ln zeroR.lc, .int .u64 zeroR.u, .string zeroR.s, .slice zeroR.B zeroR.m zeroR.d] 28)) (.bool false) (.slice none 0 0)
  simp only [World.size_alloc] at hx hy
  have hW : ((((w.alloc (.cells #[.bool s, .slice A n c] 24)).alloc (.cells #[.bool s', .slice B m d] 24)).alloc (.cells #[.int .i64 zeroR.k, .int .i64 zeroR.n, .bool zeroR.g, .slice zeroR.A zeroR.ln zeroR.lc, .int .u64 zeroR.u, .string zeroR.s, .slice zeroR.B zeroR.m zeroR.d] 28)).alloc (.cells #[.bool false, .slice none 0 0] 24)).heap.size = w.heap.size + 4 := by simp
  clear hb
  go_enter Tryz.func29, Tryz.ntmps29
  go_wp2_with fail
  generalize ((((w.alloc (.cells #[.bool s, .slice A n c] 24)).alloc (.cells #[.bool s', .slice B m d] 24)).alloc (.cells #[.int .i64 zeroR.k, .int .i64 zeroR.n, .bool zeroR.g, .slice zeroR.A zeroR.ln zeroR.lc, .int .u64 zeroR.u, .string zeroR.s, .slice zeroR.B zeroR.m zeroR.d] 28)).alloc (.cells #[.bool false, .slice none 0 0] 24)) = W at *
  refine (mul_z W s s' A B n c m d x y (h.below b0) (h'.below b0) ht ht').mono ?_
  rw [hf, clip_fits hf]
  rintro e w1 ⟨V, rfl, ⟨s1, A1, n1, c1, rfl, hs, hO⟩, hb1⟩
  have hx1 := hx.below hb1
  have hy1 := hy.below' hb1
  have b1 := b0.trans (hb1.mono b0.size)
  have hsz1 : w.heap.size + 4 ≤ w1.heap.size := by rw [← hW]; exact hb1.size
  have z0 := hy1.c0
  have z1 := hy1.c1
  have f0 := hy1.f0
  have f1 := hy1.f1
  have hn : n1 ≤ 1000 := by rw [← hO.2.1]; omega
  clear hx hy b0
  go_wp2_with fail
  have hO2 := (hO.setO (p := ⟨w.heap.size + 1 + 1 + 1, 0, none⟩) (by simp only; omega) (.bool s1)).setO (p := ⟨w.heap.size + 1 + 1 + 1, 1, none⟩) (by simp only; omega) (.slice A1 n1 c1)
  have hx2 := hx1.setO (g' := w.heap.size + 1 + 1 + 1) (by omega) 0 (.bool s1)
  have hx3 := hx2.setO (g' := w.heap.size + 1 + 1 + 1) (by omega) 1 (.slice A1 n1 c1)
  have b2 := (b1.setCell (p := ⟨w.heap.size + 1 + 1 + 1, 0, none⟩) (by simp only; omega) (.bool s1)).setCell (p := ⟨w.heap.size + 1 + 1 + 1, 1, none⟩) (by simp only; omega) (.slice A1 n1 c1)
  have hsz2 : ((w1.setCell ⟨w.heap.size + 1 + 1 + 1, 0, none⟩ (.bool s1)).setCell ⟨w.heap.size + 1 + 1 + 1, 1, none⟩ (.slice A1 n1 c1)).heap.size = w1.heap.size := by simp
  clear z0 z1 f0 f1 hx2
  generalize (w1.setCell ⟨w.heap.size + 1 + 1 + 1, 0, none⟩ (.bool s1)).setCell ⟨w.heap.size + 1 + 1 + 1, 1, none⟩ (.slice A1 n1 c1) = W2 at *
  refine (ofNum_any W2 s1 A1 n1 c1 _ ⟨hO2.lim, hO2.cap.2⟩ hn).mono ?_
  rintro e w3 ⟨R, rfl, hT, hO3, hm0, hb3⟩
  rw [hs.out] at hT hO3
  have hT' : TV w3 R (intT (x * y)) := hT
  have hO4 : Own w3 W2.heap.size R.A R.ln R.lc (intT (x * y)).mag := hO3
  have tS := Lib.hid (show TVS (fun b => w.heap.size + 4 ≤ b) w3 R (intT (x * y)) from TVS.leafy hT' (fun _ a e => by rw [e] at hO4; have := (World.ownsRow.lt hO4.2.2 a.block rfl).1; omega) hm0)
  have HO := Lib.hid hO4
  have HM := Lib.hid hm0
  clear hm0
  have hx4 := hx3.below hb3
  have b3 := b2.trans (hb3.mono b2.size)
  have hsz3 : w.heap.size + 4 ≤ w3.heap.size := by have := hb3.size; omega
  generalize mayB s1 (Lm.digits (x * y).natAbs) = ok
  clear hT hT' hO3 hO4 hx1 hx3 hy1 hO2 hO hs
  have f0 := hx4.frozen 0; have f1 := hx4.frozen 1; have f2 := hx4.frozen 2; have f3 := hx4.frozen 3; have f4 := hx4.frozen 4; have f5 := hx4.frozen 5; have f6 := hx4.frozen 6; have q0 := hx4.at.c0; have q1 := hx4.at.c1; have q2 := hx4.at.c2; have q3 := hx4.at.c3; have q4 := hx4.at.c4; have q5 := hx4.at.c5; have q6 := hx4.at.c6
  have hlt : w.heap.size + 1 + 1 < w3.heap.size := by omega
  go_wp2
  have C := ((hx4.put R).below ((Below.refl _ _).alloc (Nat.le_refl _) (.cells #[.int .i64 R.k, .int .i64 R.n, .bool R.g, .slice R.A R.ln R.lc, .int .u64 R.u, .string R.s, .slice R.B R.m R.d] 28))).at
  have hB5 := (b3.put7 (g := w.heap.size + 1 + 1) (by omega) R).alloc (by rw [put7_size]; omega) (.cells #[.int .i64 R.k, .int .i64 R.n, .bool R.g, .slice R.A R.ln R.lc, .int .u64 R.u, .string R.s, .slice R.B R.m R.d] 28)
  have hT5 := (tS.out.keep (((Keeps.refl _ w3).put7 (g := w.heap.size + 1 + 1) (by omega) R).alloc (.cells #[.int .i64 R.k, .int .i64 R.n, .bool R.g, .slice R.A R.ln R.lc, .int .u64 R.u, .string R.s, .slice R.B R.m R.d] 28))).tv
  have hO5 := (HO.out.put7 (g := w.heap.size + 1 + 1) (by omega) R).below ((Below.refl _ _).alloc (Nat.le_refl _) (.cells #[.int .i64 R.k, .int .i64 R.n, .bool R.g, .slice R.A R.ln R.lc, .int .u64 R.u, .string R.s, .slice R.B R.m R.d] 28))
  have y0 := C.c0; have y1 := C.c1; have y2 := C.c2; have y3 := C.c3; have y4 := C.c4; have y5 := C.c5; have y6 := C.c6
  clear C f0 f1 f2 f3 f4 f5 f6 q0 q1 q2 q3 q4 q5 q6 hx4 b3 tS HO
  change bodyPost _ _ _ _ _ ((put7 w3 (w.heap.size + 1 + 1) R).alloc (.cells #[.int .i64 R.k, .int .i64 R.n, .bool R.g, .slice R.A R.ln R.lc, .int .u64 R.u, .string R.s, .slice R.B R.m R.d] 28))
  generalize (put7 w3 (w.heap.size + 1 + 1) R).alloc (.cells #[.int .i64 R.k, .int .i64 R.n, .bool R.g, .slice R.A R.ln R.lc, .int .u64 R.u, .string R.s, .slice R.B R.m R.d] 28) = W5 at *
  exact bodyPost_ret (v := .agg #[.int .i64 R.k, .int .i64 R.n, .bool R.g, .slice R.A R.ln R.lc, .int .u64 R.u, .string R.s, .slice R.B R.m R.d]) (by simp [results, Tryz.results29, go_sem, y0, y1, y2, y3, y4, y5, y6]) rfl ⟨R, rfl, hT5, hO5.mono (by omega), HM.out, hB5⟩

end Go.Proofs.YtompimbeaeinbaaGreat
