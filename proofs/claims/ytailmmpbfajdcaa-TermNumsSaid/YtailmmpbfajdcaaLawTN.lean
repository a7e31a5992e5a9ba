/-
  THE LAW TermNums.
-/
import Derived.Test.YtailmmpbfajdcaaJ8
namespace Go.Proofs.Ytailmmpbfajdcaa
open Go.RowKit

/-- What stands while TermNums goes on: the number, the term made of it, the reference's. -/
structure TnI (w : World) (g : Bool) (A : Option Addr) (n c : Nat) (q1 : Nat) (R1 : TR) (q2 : Nat) (R2 : TR) (T : Tm) (W : World) : Prop where
  bx : Box W w.heap.size (.bool g) (.slice A n c)
  b1 : Box7 W q1 R1
  b2 : Box7 W q2 R2
  t1 : TV W R1 T
  o1 : Own W (w.heap.size + 1) R1.A R1.ln R1.lc T.mag
  k1 : ∀ k, R1.A.map (·.block) = some k → k < q1
  t2 : TVS (fun b => q1 < b ∧ b < q2) W R2 T
  be : Below w.heap.size w W
  pq : w.heap.size < q1
  qq : q1 < q2
set_option maxRecDepth 100000 in
theorem TnI.below {w : World} {g : Bool} {A : Option Addr} {n c : Nat} {q1 : Nat} {R1 : TR} {q2 : Nat} {R2 : TR} {T : Tm} {W W' : World} (h : TnI w g A n c q1 R1 q2 R2 T W) (hb : Below W.heap.size W W') : TnI w g A n c q1 R1 q2 R2 T W' :=
  ⟨h.bx.below' hb, h.b1.below hb, h.b2.below hb, h.t1.bel hb, h.o1.below hb, h.k1, h.t2.keep (hb.keeps _), h.be.trans (hb.mono h.be.size), h.pq, h.qq⟩

set_option maxRecDepth 100000 in
set_option maxHeartbeats 8000000 in
theorem termNums_walk (w : World) (g : Bool) (A : Option Addr) (n c : Nat) (l : List Nat) (h : Raw w A n c l) (z : Int) (hz0 : -9223372036854775808 ≤ z) (hz1 : z ≤ 9223372036854775807) :
    Calls Try.prog 3 #[.agg #[.bool g, .slice A n c], .int .i64 z] w fun e w' => e = .returned (.bool true) ∧ Below w.heap.size w w' := by
  have b0 := (Below.refl w.heap.size w).alloc (Nat.le_refl _) (.cells #[.bool g, .slice A n c] 24)
  have hx := Box.new w (.bool g) (.slice A n c)
  have hlen := h.1.1
  have hsm := h.1.2.2.1
  have hW : (w.alloc (.cells #[.bool g, .slice A n c] 24)).heap.size = w.heap.size + 1 := by simp
  go_enter Try.func3, Try.ntmps3
  go_wp2_with fail
  generalize w.alloc (.cells #[.bool g, .slice A n c] 24) = W at *
  refine (great_any W g A n c).mono ?_
  rintro e w1 ⟨rfl, hb1⟩
  have hx1 := hx.below' hb1
  have b1 := b0.trans (hb1.mono b0.size)
  have hs1 : w.heap.size + 1 ≤ w1.heap.size := by rw [← hW]; exact hb1.size
  by_cases hgt : 40 < n
  · have hd : decide (40 < n) = true := decide_eq_true hgt
    rw [hd]
    go_wp2_with fail
    refine (awake4 w1).mono ?_
    rintro e w2 ⟨rfl, hb2⟩
    go_wp2
    go_ret
    exact ⟨rfl, b1.trans (hb2.mono b1.size)⟩
  · have hd : decide (40 < n) = false := decide_eq_false hgt
    rw [hd]
    clear hd
    have x0 := hx1.c0
    have x1 := hx1.c1
    go_wp2_with fail
    refine (ofNum_any w1 g A n c l (h.below b1) (by omega)).mono ?_
    generalize hok : mayB g l = ok
    have HOK := Lib.hid hok
    clear hok
    rintro e w2 ⟨R1, rfl, hT1, hO1, hm1, hb2⟩
    rw [HOK.out]
    have hx2 := hx1.below' hb2
    have b2 := b1.trans (hb2.mono b1.size)
    have hs2 : w.heap.size + 1 ≤ w2.heap.size := Nat.le_trans hs1 hb2.size
    have HM1 := Lib.hid hm1
    clear hm1 x0 x1 hx1
    have x0 := hx2.c0
    have x1 := hx2.c1
    have hlt : w.heap.size < w2.heap.size := by omega
    go_wp2_with fail
    have hal := (Below.refl w2.heap.size w2).alloc (Nat.le_refl _) (.cells #[.int .i64 R1.k, .int .i64 R1.n, .bool R1.g, .slice R1.A R1.ln R1.lc, .int .u64 R1.u, .string R1.s, .slice R1.B R1.m R1.d] 30)
    have hx3 := hx2.below' hal
    have b3 := b2.alloc b2.size (.cells #[.int .i64 R1.k, .int .i64 R1.n, .bool R1.g, .slice R1.A R1.ln R1.lc, .int .u64 R1.u, .string R1.s, .slice R1.B R1.m R1.d] 30)
    have n1 := Box7.new w2 R1
    have t1 := hT1.bel hal
    have o1 := (hO1.below hal).mono hs1
    have k1 : ∀ k, R1.A.map (·.block) = some k → k < w2.heap.size := fun k hk => by
      cases hA : R1.A with
      | none => rw [hA] at hk; cases hk
      | some a => rw [hA] at hk hO1; cases hk; exact (World.ownsRow.lt hO1.2.2 a.block rfl).2
    have hs3 : (w2.alloc (.cells #[.int .i64 R1.k, .int .i64 R1.n, .bool R1.g, .slice R1.A R1.ln R1.lc, .int .u64 R1.u, .string R1.s, .slice R1.B R1.m R1.d] 30)).heap.size = w2.heap.size + 1 := by simp
    obtain ⟨q1, hq1⟩ : ∃ q, q = w2.heap.size := ⟨_, rfl⟩
    generalize w2.alloc (.cells #[.int .i64 R1.k, .int .i64 R1.n, .bool R1.g, .slice R1.A R1.ln R1.lc, .int .u64 R1.u, .string R1.s, .slice R1.B R1.m R1.d] 30) = W3 at *
    rw [← hq1] at n1 k1 hs3 hs2 ⊢
    clear hq1 hx2 b2 hT1 hO1 x0 x1 hal hlt hb2
    refine (refOfNum_any W3 g A n c l (h.below b3) (by omega)).mono ?_
    rintro e w4 ⟨R2, rfl, hT2, hO2, hm2, hb4⟩
    rw [HOK.out]
    have hs4 : q1 + 1 ≤ w4.heap.size := by rw [← hs3]; exact hb4.size
    have I : TnI w g A n c q1 R1 w4.heap.size R2 (ofT g l) (w4.alloc (.cells #[.int .i64 R2.k, .int .i64 R2.n, .bool R2.g, .slice R2.A R2.ln R2.lc, .int .u64 R2.u, .string R2.s, .slice R2.B R2.m R2.d] 30)) := by
      have hal := (Below.refl w4.heap.size w4).alloc (Nat.le_refl _) (.cells #[.int .i64 R2.k, .int .i64 R2.n, .bool R2.g, .slice R2.A R2.ln R2.lc, .int .u64 R2.u, .string R2.s, .slice R2.B R2.m R2.d] 30)
      refine ⟨(hx3.below' hb4).below' hal, (n1.below hb4).below hal, Box7.new w4 R2, (t1.bel hb4).bel hal, (o1.below hb4).below hal, k1, ?_, (b3.trans (hb4.mono b3.size)).alloc (by omega) _, by omega, by omega⟩
      exact (TVS.leafy hT2 (fun _ a e => by rw [e] at hO2; have := World.ownsRow.lt hO2.2.2 a.block rfl; exact ⟨by omega, by omega⟩) hm2).keep ((Keeps.refl _ _).alloc _)
    clear hx3 n1 t1 o1 k1 b3 hT2 hO2 hm2
    have I' := Lib.hid I
    have hl1 : q1 < w4.heap.size := by omega
    have u0 := (I.b1.at)
    have v0 := (I.b2.at)
    have y0 := u0.c0; have y1 := u0.c1; have y2 := u0.c2; have y3 := u0.c3; have y4 := u0.c4; have y5 := u0.c5; have y6 := u0.c6; have x0 := v0.c0; have x1 := v0.c1; have x2 := v0.c2; have x3 := v0.c3; have x4 := v0.c4; have x5 := v0.c5; have x6 := v0.c6
    clear u0 v0 I
    go_wp2_with fail
    obtain ⟨q2, hq2⟩ : ∃ q, q = w4.heap.size := ⟨_, rfl⟩
    generalize w4.alloc (.cells #[.int .i64 R2.k, .int .i64 R2.n, .bool R2.g, .slice R2.A R2.ln R2.lc, .int .u64 R2.u, .string R2.s, .slice R2.B R2.m R2.d] 30) = W5 at *
    rw [← hq2] at I' ⊢
    clear hq2 y0 y1 y2 y3 y4 y5 y6 x0 x1 x2 x3 x4 x5 x6 hl1 hs4 hb4 hs3
    have I := I'.out
    clear I'
    refine (sameTerm_eq (ofT g l) W5 R1 R2 I.t1 I.t2.tv).mono ?_
    rintro e w6 ⟨rfl, hb6⟩
    have I6 := I.below hb6
    clear I
    have hoo : (ok != ok) = false := by simp
    have hoo' : (ok == ok) = true := by simp
    go_wp2_with fail
    refine (int_any w6 z hz0 hz1).mono ?_
    rintro e w7 ⟨R3, rfl, hT3, hb7⟩
    have I7 := I6.below hb7
    clear I6
    go_wp2_with fail
    refine (refInt_any w7 z hz0 hz1).mono ?_
    rintro e w8 ⟨R4, rfl, hT4, hb8⟩
    have I8 := I7.below hb8
    clear I7
    go_wp2_with fail
    refine (sameTerm_eq (intT z) w8 R3 R4 (hT3.bel hb8) hT4).mono ?_
    rintro e w9 ⟨rfl, hb9⟩
    have I9 := I8.below hb9
    clear I8 hT3 hT4
    go_wp2_with fail
    refine (atom_any w9 z hz0 hz1).mono ?_
    rintro e w10 ⟨R5, rfl, hT5, hb10⟩
    have I10 := I9.below hb10
    clear I9
    go_wp2_with fail
    refine (refAtom_any w10 z hz0 hz1).mono ?_
    rintro e w11 ⟨R6, rfl, hT6, hb11⟩
    have I11 := I10.below hb11
    clear I10
    go_wp2_with fail
    refine (sameTerm_eq _ w11 R5 R6 (hT5.bel hb11) hT6).mono ?_
    rintro e w12 ⟨rfl, hb12⟩
    have I12 := I11.below hb12
    clear I11 hT5 hT6 hoo hoo'
    cases ok with
    | false =>
      have y0 := I12.b1.at.c0; have y1 := I12.b1.at.c1; have y2 := I12.b1.at.c2; have y3 := I12.b1.at.c3; have y4 := I12.b1.at.c4; have y5 := I12.b1.at.c5; have y6 := I12.b1.at.c6; have x0 := I12.b2.at.c0; have x1 := I12.b2.at.c1; have x2 := I12.b2.at.c2; have x3 := I12.b2.at.c3; have x4 := I12.b2.at.c4; have x5 := I12.b2.at.c5; have x6 := I12.b2.at.c6
      go_wp2_with fail
      refine (sameTerm_eq (ofT g l) w12 R1 R2 I12.t1 I12.t2.tv).mono ?_
      rintro e w13 ⟨rfl, hb13⟩
      have I13 := I12.below hb13
      clear I12 y0 y1 y2 y3 y4 y5 y6 x0 x1 x2 x3 x4 x5 x6
      go_wp2_with fail
      refine (awake4 w13).mono ?_
      rintro e w14 ⟨rfl, hb14⟩
      have I14 := I13.below hb14
      go_wp2
      go_ret
      exact ⟨rfl, I14.be⟩
    | true =>
      have y0 := I12.b1.at.c0; have y1 := I12.b1.at.c1; have y2 := I12.b1.at.c2; have y3 := I12.b1.at.c3; have y4 := I12.b1.at.c4; have y5 := I12.b1.at.c5; have y6 := I12.b1.at.c6
      go_wp2_with fail
      refine (numT_any w12 R1 g l I12.t1 HOK.out hsm).mono ?_
      rintro e w13 ⟨A', c', rfl, hO, hb13⟩
      have I13 := I12.below hb13
      clear I12 y0 y1 y2 y3 y4 y5 y6
      rw [hlen] at hO ⊢
      have HLEN := Lib.hid hlen
      clear hlen
      have hx13 := I13.bx
      have x0 := hx13.c0
      have x1 := hx13.c1
      have hl13 : w.heap.size < w13.heap.size := hx13.lt
      clear hx13
      have hal := (Below.refl w13.heap.size w13).alloc (Nat.le_refl _) (.cells #[.bool g, .slice A' n c'] 24)
      have I14 := I13.below hal
      have y14 := Box.new w13 (.bool g) (.slice A' n c')
      have r14 : Raw (w13.alloc (.cells #[.bool g, .slice A' n c'] 24)) A' n c' l := ⟨(hO.below hal).lim, hO.cap.2⟩
      have HI := Lib.hid I14
      have HY := Lib.hid y14
      have HR := Lib.hid r14
      clear I13 I14 y14 r14 hO hal
      go_wp2_with fail
      clear x0 x1 hl13
      obtain ⟨q3, hq3⟩ : ∃ q, q = w13.heap.size := ⟨_, rfl⟩
      have I14 := HI.out
      have y14 := HY.out
      have r14 := HR.out
      clear HI HY HR
      generalize w13.alloc (.cells #[.bool g, .slice A' n c'] 24) = W14 at *
      rw [← hq3] at y14 ⊢
      clear hq3
      refine (sameNum_any W14 g g A' A n c' n c l l r14.1 r14.2 (h.below I14.be).1 h.2).mono ?_
      rw [show sameB g g l l = true by simp [sameB]]
      rintro e w15 ⟨rfl, hb15⟩
      have I15 := I14.below hb15
      have y15 := y14.below' hb15
      have r15 := r14.below hb15
      clear I14 y14 r14
      have y0 := I15.b1.at.c0; have y1 := I15.b1.at.c1; have y2 := I15.b1.at.c2; have y3 := I15.b1.at.c3; have y4 := I15.b1.at.c4; have y5 := I15.b1.at.c5; have y6 := I15.b1.at.c6
      go_wp2_with fail
      refine (mayTerm_any w15 R1 (ofT g l) I15.t1 (ofT_ok (by rw [HLEN.out]; omega))).mono ?_
      rw [ofT_may HOK.out]
      rintro e w16 ⟨rfl, hb16⟩
      have I16 := I15.below hb16
      have y16 := y15.below' hb16
      have r16 := r15.below hb16
      clear I15 y15 r15 y0 y1 y2 y3 y4 y5 y6
      have x0 := I16.bx.c0
      have x1 := I16.bx.c1
      have z0 := y16.c0
      have z1 := y16.c1
      go_wp2_with fail
      refine (refCmp_raw w16 g g A A' n c n c' l l (h.below I16.be) r16).mono ?_
      rw [show cmpR g g l l = 0 by simp [cmpR, cmpZ]]
      rintro e w17 ⟨rfl, hb17⟩
      have I17 := I16.below hb17
      clear I16 y16 r16 x0 x1 z0 z1
      have y0 := I17.b1.at.c0; have y1 := I17.b1.at.c1; have y2 := I17.b1.at.c2; have y3 := I17.b1.at.c3; have y4 := I17.b1.at.c4; have y5 := I17.b1.at.c5; have y6 := I17.b1.at.c6
      go_wp2_with fail
      refine (overTerm_any w17 R1 (w.heap.size + 1) (ofT g l).mag I17.o1 HM1.out (by have := Ok.limbs I17.t1 (ofT_ok (by rw [HLEN.out]; omega)); omega)).mono ?_
      rintro e w18 ⟨rfl, hg18⟩
      have hpq := I17.pq
      have hqq := I17.qq
      have hrow : ∀ k, R1.A.map (·.block) = some k → w.heap.size + 1 ≤ k ∧ k < q1 := fun k hk => by
        refine ⟨?_, I17.k1 k hk⟩
        cases hA : R1.A with
        | none => rw [hA] at hk; cases hk
        | some a =>
          have ho := I17.o1
          rw [hA] at hk ho
          cases hk
          exact (World.ownsRow.lt ho.2.2 a.block rfl).1
      have be18 : Below w.heap.size w w18 := I17.be.grown hg18 I17.be.size (fun k hk => by have := (hrow k hk).1; omega)
      have hx18 : Box w18 w.heap.size (.bool g) (.slice A n c) := (hg18.block _ I17.bx.lt (fun e => by have := hrow _ e.symm; omega)).trans I17.bx
      have n18 : Box7 w18 q1 R1 := (hg18.block _ I17.b1.lt (fun e => by have := hrow _ e.symm; omega)).trans I17.b1
      have m18 : Box7 w18 q2 R2 := (hg18.block _ I17.b2.lt (fun e => by have := hrow _ e.symm; omega)).trans I17.b2
      have t18 : TVS (fun b => q1 < b ∧ b < q2) w18 R2 (ofT g l) := I17.t2.keep ⟨hg18.size, fun b hb hl => hg18.block b hl (fun e => by have := hrow _ e.symm; omega)⟩
      clear I17 y0 y1 y2 y3 y4 y5 y6 hg18 hrow
      have x0 := hx18.c0
      have x1 := hx18.c1
      have hq18 := n18.lt
      go_wp2_with fail
      refine (ofNum_any w18 g A n c l (h.below be18) (by omega)).mono ?_
      rintro e w19 ⟨R7, rfl, hT7, hO7, hm7, hb19⟩
      rw [HOK.out]
      have n19 := n18.below hb19
      have m19 := m18.below hb19
      have t19 := t18.keep (hb19.keeps _)
      have be19 := be18.trans (hb19.mono be18.size)
      have s7 : TVS (fun b => q1 < b) w19 R7 (ofT g l) := TVS.leafy hT7 (fun _ a e => by rw [e] at hO7; have := (World.ownsRow.lt hO7.2.2 a.block rfl).1; omega) hm7
      have kp := (Keeps.refl (fun b => q1 < b) w19).put7 (g := q1) (by omega) R7
      have s20 := (s7.keep kp).tv
      have t20 := ((t19.mono (S' := fun b => q1 < b) (fun b h => h.1)).keep kp).tv
      have n20 := n19.put R7
      have m20 := m19.put' (g' := q1) (by omega) R7
      have be20 := be19.put7 (g := q1) (by omega) R7
      have HS := Lib.hid s20
      have HT := Lib.hid t20
      have HN := Lib.hid n20
      have HMM := Lib.hid m20
      have HB := Lib.hid be20
      have f0 := n19.frozen 0; have f1 := n19.frozen 1; have f2 := n19.frozen 2; have f3 := n19.frozen 3; have f4 := n19.frozen 4; have f5 := n19.frozen 5; have f6 := n19.frozen 6; have y0 := n19.at.c0; have y1 := n19.at.c1; have y2 := n19.at.c2; have y3 := n19.at.c3; have y4 := n19.at.c4; have y5 := n19.at.c5; have y6 := n19.at.c6; have x0 := m19.at.c0; have x1 := m19.at.c1; have x2 := m19.at.c2; have x3 := m19.at.c3; have x4 := m19.at.c4; have x5 := m19.at.c5; have x6 := m19.at.c6
      have hne : ¬ (q1 = q2) := by omega
      have hne' : ¬ (q2 = q1) := by omega
      clear hx18 n18 m18 t18 be18 n19 m19 t19 be19 s7 kp s20 t20 n20 m20 be20 hT7 hO7 hm7 hb19
      go_upto_region 13 with fail
      change Code.wp _ _ _ _ (put7 w19 q1 R7)
      clear f0 f1 f2 f3 f4 f5 f6 y0 y1 y2 y3 y4 y5 y6 x0 x1 x2 x3 x4 x5 x6
      have s20 := HS.out
      have t20 := HT.out
      have n20 := HN.out
      have m20 := HMM.out
      have be20 := HB.out
      clear HS HT HN HMM HB
      generalize put7 w19 q1 R7 = W20 at *
      have y0 := n20.at.c0; have y1 := n20.at.c1; have y2 := n20.at.c2; have y3 := n20.at.c3; have y4 := n20.at.c4; have y5 := n20.at.c5; have y6 := n20.at.c6; have x0 := m20.at.c0; have x1 := m20.at.c1; have x2 := m20.at.c2; have x3 := m20.at.c3; have x4 := m20.at.c4; have x5 := m20.at.c5; have x6 := m20.at.c6
      go_wp2_with fail
      refine (sameTerm_eq (ofT g l) W20 R7 R2 s20 t20).mono ?_
      rintro e w21 ⟨rfl, hb21⟩
      have be21 := be20.trans (hb21.mono be20.size)
      clear y0 y1 y2 y3 y4 y5 y6 x0 x1 x2 x3 x4 x5 x6
      go_wp2_with fail
      refine (awake4 w21).mono ?_
      rintro e w22 ⟨rfl, hb22⟩
      go_wp2
      go_ret
      exact ⟨rfl, be21.trans (hb22.mono be21.size)⟩
end Go.Proofs.Ytailmmpbfajdcaa
