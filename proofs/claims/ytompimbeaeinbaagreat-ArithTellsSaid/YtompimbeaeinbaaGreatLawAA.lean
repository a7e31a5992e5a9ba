/-
  THE WALK OF ArithTells.
-/
import Derived.Test.YtompimbeaeinbaaGreatRfD
namespace Go.Proofs.YtompimbeaeinbaaGreat
open Go.RowKit

set_option maxRecDepth 100000 in
theorem greatB_one' {t : Tm} {n : Int} (h : greatB [t] n = false) : t.Ok := (greatB_no h).2 t (by simp)
set_option maxRecDepth 100000 in
theorem keeps_of {S : Nat → Prop} {w w' : World} (h : Below w.heap.size w w') : Keeps S w w' := ⟨h.size, fun b _ hl => h.block b hl⟩

set_option maxRecDepth 100000 in
set_option maxRecDepth 100000 in
set_option maxHeartbeats 16000000 in
theorem arithTells_walk (w : World) (op : Int) (r : TR) (t : Tm) (h : TV w r t) (r' : TR) (t' : Tm) (h' : TV w r' t') :
    Calls Tryz.prog 3 #[.int .i64 op, .agg #[.int .i64 r.k, .int .i64 r.n, .bool r.g, .slice r.A r.ln r.lc, .int .u64 r.u, .string r.s, .slice r.B r.m r.d], .agg #[.int .i64 r'.k, .int .i64 r'.n, .bool r'.g, .slice r'.A r'.ln r'.lc, .int .u64 r'.u, .string r'.s, .slice r'.B r'.m r'.d]] w fun e w' => e = .returned (.bool true) ∧ Below w.heap.size w w' := by
  have bb := ((Below.refl w.heap.size w).alloc (Nat.le_refl _) (.cells #[.int .i64 r.k, .int .i64 r.n, .bool r.g, .slice r.A r.ln r.lc, .int .u64 r.u, .string r.s, .slice r.B r.m r.d] 28)).alloc (by simp) (.cells #[.int .i64 r'.k, .int .i64 r'.n, .bool r'.g, .slice r'.A r'.ln r'.lc, .int .u64 r'.u, .string r'.s, .slice r'.B r'.m r'.d] 28)
  have Va := (Vt.new h).below ((Below.refl _ _).alloc (Nat.le_refl _) (.cells #[.int .i64 r'.k, .int .i64 r'.n, .bool r'.g, .slice r'.A r'.ln r'.lc, .int .u64 r'.u, .string r'.s, .slice r'.B r'.m r'.d] 28))
  have Vb := Vt.new (h'.bel ((Below.refl _ _).alloc (Nat.le_refl _) (.cells #[.int .i64 r.k, .int .i64 r.n, .bool r.g, .slice r.A r.ln r.lc, .int .u64 r.u, .string r.s, .slice r.B r.m r.d] 28)))
  rw [World.size_alloc] at Vb
  clear h h'
  go_enter Tryz.func3, Tryz.ntmps3
  go_upto_region 1 with fail
  generalize (w.alloc (.cells #[.int .i64 r.k, .int .i64 r.n, .bool r.g, .slice r.A r.ln r.lc, .int .u64 r.u, .string r.s, .slice r.B r.m r.d] 28)).alloc (.cells #[.int .i64 r'.k, .int .i64 r'.n, .bool r'.g, .slice r'.A r'.ln r'.lc, .int .u64 r'.u, .string r'.s, .slice r'.B r'.m r'.d] 28) = W0 at *
  have y0 := Va.bx.at.c0; have y1 := Va.bx.at.c1; have y2 := Va.bx.at.c2; have y3 := Va.bx.at.c3; have y4 := Va.bx.at.c4; have y5 := Va.bx.at.c5; have y6 := Va.bx.at.c6
  go_wp2_with fail
  refine (greatT_any W0 r t Va.tv 400 (by omega) (by omega)).mono ?_
  cases g1 : greatB [t] 400 with
  | true =>
    rintro e a1 ⟨rfl, hb⟩
    have bb' := bb.trans (hb.mono bb.size)
    clear y0 y1 y2 y3 y4 y5 y6
    go_wp2_with fail
    refine (awake6 a1).mono ?_
    rintro e z1 ⟨rfl, hz1⟩
    go_wp2
    go_ret
    exact ⟨rfl, bb'.trans (hz1.mono bb'.size)⟩
  | false =>
    rintro e a1 ⟨rfl, hb⟩
    have bb1 := bb.trans (hb.mono bb.size)
    have Va1 := Va.below hb
    have Vb1 := Vb.below hb
    have ok1 := greatB_one' g1
    clear y0 y1 y2 y3 y4 y5 y6 Va Vb hb bb
    have y0 := Vb1.bx.at.c0; have y1 := Vb1.bx.at.c1; have y2 := Vb1.bx.at.c2; have y3 := Vb1.bx.at.c3; have y4 := Vb1.bx.at.c4; have y5 := Vb1.bx.at.c5; have y6 := Vb1.bx.at.c6
    go_wp2_with fail
    refine (greatT_any a1 r' t' Vb1.tv 400 (by omega) (by omega)).mono ?_
    cases g2 : greatB [t'] 400 with
    | true =>
      rintro e a2 ⟨rfl, hb⟩
      have bb' := bb1.trans (hb.mono bb1.size)
      clear y0 y1 y2 y3 y4 y5 y6
      go_wp2_with fail
      refine (awake6 a2).mono ?_
      rintro e z1 ⟨rfl, hz1⟩
      go_wp2
      go_ret
      exact ⟨rfl, bb'.trans (hz1.mono bb'.size)⟩
    | false =>
      rintro e a2 ⟨rfl, hb⟩
      have bb2 := bb1.trans (hb.mono bb1.size)
      have Va2 := Va1.below hb
      have Vb2 := Vb1.below hb
      have ok2 := greatB_one' g2
      clear y0 y1 y2 y3 y4 y5 y6 Va1 Vb1 hb bb1 g1 g2
      obtain ⟨o, ho⟩ : ∃ o, o = doO op t t' := ⟨_, rfl⟩
      have HO := Lib.hid ho
      clear ho
      obtain ⟨E, hE⟩ : ∃ E, E = rsO o := ⟨_, rfl⟩
      have HE := Lib.hid hE
      clear hE
      go_upto_region 3 with fail
      have y0 := Va2.bx.at.c0; have y1 := Va2.bx.at.c1; have y2 := Va2.bx.at.c2; have y3 := Va2.bx.at.c3; have y4 := Va2.bx.at.c4; have y5 := Va2.bx.at.c5; have y6 := Va2.bx.at.c6; have x0 := Vb2.bx.at.c0; have x1 := Vb2.bx.at.c1; have x2 := Vb2.bx.at.c2; have x3 := Vb2.bx.at.c3; have x4 := Vb2.bx.at.c4; have x5 := Vb2.bx.at.c5; have x6 := Vb2.bx.at.c6
      go_wp2_with fail
      refine (do_any a2 op r r' t t' Va2.tv Vb2.tv ok1 ok2).mono ?_
      rw [← HO.out]
      rintro e v1 ⟨R1, he, T1, P1, m1, hb1⟩
      rw [← HE.out] at he
      subst he
      have hl1 : R1.ln ≤ 1000 := by
        have h1 := T1.magLen
        have h2 := Ok.limbs T1 (show (mdO o).Ok by rw [HO.out]; exact mdO_ok _ _ _)
        omega
      have M1 := Lib.hid m1
      have hrow : Hid (∀ k, R1.A.map (·.block) = some k → a2.heap.size ≤ k ∧ k < v1.heap.size) := Lib.hid (fun k hk => by
        cases hA : R1.A with
        | none => rw [hA] at hk; cases hk
        | some a => rw [hA] at hk; cases hk; rw [hA] at P1; exact World.ownsRow.lt P1.2.2 a.block rfl)
      have al := (Below.refl v1.heap.size v1).alloc (Nat.le_refl _) (.cells #[.int .i64 R1.k, .int .i64 R1.n, .bool R1.g, .slice R1.A R1.ln R1.lc, .int .u64 R1.u, .string R1.s, .slice R1.B R1.m R1.d] 28)
      have V1 := Vt.new T1
      have P1' := Lib.hid (P1.below al)
      have BA := hb1.trans (al.mono hb1.size)
      have s1 := hb1.size
      have s2 : v1.heap.size < (v1.alloc (.cells #[.int .i64 R1.k, .int .i64 R1.n, .bool R1.g, .slice R1.A R1.ln R1.lc, .int .u64 R1.u, .string R1.s, .slice R1.B R1.m R1.d] 28)).heap.size := by simp
      have Va3 := Va2.below BA
      have Vb3 := Vb2.below BA
      clear y0 y1 y2 y3 y4 y5 y6 x0 x1 x2 x3 x4 x5 x6 T1 P1 m1 hb1 al
      go_upto_region 4 with fail
      generalize v1.alloc (.cells #[.int .i64 R1.k, .int .i64 R1.n, .bool R1.g, .slice R1.A R1.ln R1.lc, .int .u64 R1.u, .string R1.s, .slice R1.B R1.m R1.d] 28) = Y1 at *
      have y0 := Va3.bx.at.c0; have y1 := Va3.bx.at.c1; have y2 := Va3.bx.at.c2; have y3 := Va3.bx.at.c3; have y4 := Va3.bx.at.c4; have y5 := Va3.bx.at.c5; have y6 := Va3.bx.at.c6; have x0 := Vb3.bx.at.c0; have x1 := Vb3.bx.at.c1; have x2 := Vb3.bx.at.c2; have x3 := Vb3.bx.at.c3; have x4 := Vb3.bx.at.c4; have x5 := Vb3.bx.at.c5; have x6 := Vb3.bx.at.c6
      go_wp2_with fail
      refine (refDo_any Y1 op r r' t t' Va3.tv Vb3.tv ok1 ok2).mono ?_
      rw [← HO.out]
      rintro e v2 ⟨R2, he, T2, P2, m2, hb2⟩
      rw [← HE.out] at he
      subst he
      have al := (Below.refl v2.heap.size v2).alloc (Nat.le_refl _) (.cells #[.int .i64 R2.k, .int .i64 R2.n, .bool R2.g, .slice R2.A R2.ln R2.lc, .int .u64 R2.u, .string R2.s, .slice R2.B R2.m R2.d] 28)
      have tS := TVS.leafy (S := fun b => Y1.heap.size ≤ b) T2 (fun _ a e => by rw [e] at P2; exact (World.ownsRow.lt P2.2.2 a.block rfl).1) m2
      have US := Lib.hid (tS.keep (keeps_of al))
      have UB := Box7.new v2 R2
      have BC := hb2.trans (al.mono hb2.size)
      have BB := BA.trans (BC.mono BA.size)
      have V2 := V1.below BC
      have P2' := Lib.hid (P1'.out.below BC)
      have s3 := hb2.size
      clear y0 y1 y2 y3 y4 y5 y6 x0 x1 x2 x3 x4 x5 x6 T2 P2 m2 hb2 al tS V1 P1' Va3 Vb3 BA
      have s4 := BC.size
      go_upto_region 5 with fail
      generalize v2.alloc (.cells #[.int .i64 R2.k, .int .i64 R2.n, .bool R2.g, .slice R2.A R2.ln R2.lc, .int .u64 R2.u, .string R2.s, .slice R2.B R2.m R2.d] 28) = Y2 at *
      have y0 := V2.bx.at.c0; have y1 := V2.bx.at.c1; have y2 := V2.bx.at.c2; have y3 := V2.bx.at.c3; have y4 := V2.bx.at.c4; have y5 := V2.bx.at.c5; have y6 := V2.bx.at.c6; have x0 := UB.at.c0; have x1 := UB.at.c1; have x2 := UB.at.c2; have x3 := UB.at.c3; have x4 := UB.at.c4; have x5 := UB.at.c5; have x6 := UB.at.c6
      go_wp2_with fail
      refine (sameTerm_eq (mdO o) Y2 R1 R2 V2.tv US.out.tv).mono ?_
      rintro e c1 ⟨rfl, hb⟩
      have V3 := V2.below hb
      have P3 := P2'.out.below hb
      have UB3 := UB.below hb
      have US3 := Lib.hid (US.out.keep (keeps_of hb))
      have B3 := BB.trans (hb.mono BB.size)
      have s5 := hb.size
      clear y0 y1 y2 y3 y4 y5 y6 x0 x1 x2 x3 x4 x5 x6 hb V2 P2' UB US BB BC
      have hEE : (E == E) = true := beq_iff_eq.2 rfl
      have y0 := True.intro
      clear y0
      go_upto_region 6 with fail
      have y0 := V3.bx.at.c0; have y1 := V3.bx.at.c1; have y2 := V3.bx.at.c2; have y3 := V3.bx.at.c3; have y4 := V3.bx.at.c4; have y5 := V3.bx.at.c5; have y6 := V3.bx.at.c6
      go_wp2_with fail
      refine (overTerm_any c1 R1 a2.heap.size _ P3 M1.out hl1).mono ?_
      rintro e c2 ⟨rfl, hg⟩
      have B4 : Below a2.heap.size a2 c2 := B3.grown hg B3.size (fun k hk => (hrow.out k hk).1)
      have ub : v2.heap.size < c1.heap.size := UB3.lt
      have UB4 : Box7 c2 v2.heap.size R2 := (hg.block _ UB3.lt (fun e => by have := (hrow.out _ e.symm).2; omega)).trans UB3
      have TB4 : Box7 c2 v1.heap.size R1 := (hg.block _ V3.bx.lt (fun e => by have := (hrow.out _ e.symm).2; omega)).trans V3.bx
      have US4 := Lib.hid (US3.out.keep (⟨hg.size, fun b hS hl => hg.block b hl (fun e => by have := (hrow.out _ e.symm).2; omega)⟩ : Keeps _ c1 c2))
      have Va4 := Va2.below B4
      have Vb4 := Vb2.below B4
      have s6 : v2.heap.size < c2.heap.size := UB4.lt
      clear y0 y1 y2 y3 y4 y5 y6 V3 P3 UB3 US3 B3 Va2 Vb2 hg
      go_upto_region 7 with fail
      have y0 := Va4.bx.at.c0; have y1 := Va4.bx.at.c1; have y2 := Va4.bx.at.c2; have y3 := Va4.bx.at.c3; have y4 := Va4.bx.at.c4; have y5 := Va4.bx.at.c5; have y6 := Va4.bx.at.c6; have x0 := Vb4.bx.at.c0; have x1 := Vb4.bx.at.c1; have x2 := Vb4.bx.at.c2; have x3 := Vb4.bx.at.c3; have x4 := Vb4.bx.at.c4; have x5 := Vb4.bx.at.c5; have x6 := Vb4.bx.at.c6
      go_wp2_with fail
      refine (do_any c2 op r r' t t' Va4.tv Vb4.tv ok1 ok2).mono ?_
      rw [← HO.out]
      rintro e v3 ⟨R3, he, T3, P3, m3, hb3⟩
      rw [← HE.out] at he
      subst he
      have ne : v1.heap.size ≠ v2.heap.size := by omega
      have TB5 := TB4.below hb3
      have UB5 := UB4.below hb3
      have T3' := Lib.hid (made_keep (g := v1.heap.size) T3 P3 m3 (by omega) R3)
      have US5 := Lib.hid ((US4.out.keep (keeps_of hb3)).keep ((Keeps.refl _ v3).put7 (g := v1.heap.size) (by omega) R3))
      have UB6 := UB5.put' ne R3
      have TB6 := TB5.put R3
      have B5 := (B4.trans (hb3.mono B4.size)).put7 (g := v1.heap.size) s1 R3
      have bb3 := bb2.trans (B5.mono bb2.size)
      clear y0 y1 y2 y3 y4 y5 y6 x0 x1 x2 x3 x4 x5 x6 T3 P3 m3 hb3 TB4 UB4 US4 B4 Va4 Vb4 UB5 M1
      have f0 := TB5.frozen 0; have f1 := TB5.frozen 1; have f2 := TB5.frozen 2; have f3 := TB5.frozen 3; have f4 := TB5.frozen 4; have f5 := TB5.frozen 5; have f6 := TB5.frozen 6; have q0 := TB5.at.c0; have q1 := TB5.at.c1; have q2 := TB5.at.c2; have q3 := TB5.at.c3; have q4 := TB5.at.c4; have q5 := TB5.at.c5; have q6 := TB5.at.c6
      go_upto_region 8 with fail
      change Code.wp _ _ _ _ (put7 v3 v1.heap.size R3)
      clear f0 f1 f2 f3 f4 f5 f6 q0 q1 q2 q3 q4 q5 q6 TB5
      generalize put7 v3 v1.heap.size R3 = W6 at *
      have y0 := TB6.at.c0; have y1 := TB6.at.c1; have y2 := TB6.at.c2; have y3 := TB6.at.c3; have y4 := TB6.at.c4; have y5 := TB6.at.c5; have y6 := TB6.at.c6; have x0 := UB6.at.c0; have x1 := UB6.at.c1; have x2 := UB6.at.c2; have x3 := UB6.at.c3; have x4 := UB6.at.c4; have x5 := UB6.at.c5; have x6 := UB6.at.c6
      go_wp2_with fail
      refine (sameTerm_eq (mdO o) W6 R3 R2 T3'.out US5.out.tv).mono ?_
      rintro e c3 ⟨rfl, hb⟩
      have bb4 := bb3.trans (hb.mono bb3.size)
      clear y0 y1 y2 y3 y4 y5 y6 x0 x1 x2 x3 x4 x5 x6
      go_wp2_with fail
      refine (awake6 c3).mono ?_
      rintro e z1 ⟨rfl, hz1⟩
      go_wp2
      go_ret
      exact ⟨rfl, bb4.trans (hz1.mono bb4.size)⟩
end Go.Proofs.YtompimbeaeinbaaGreat
