/-
  THE WALK OF ArithTurns.
-/
import Derived.Test.YtompimbeaeinbaaArK
import Derived.Deep.CutRange
namespace Go.Proofs.Ytompimbeaeinbaa
open Go.RowKit

theorem greatB_one {t : Tm} {n : Int} (h : greatB [t] n = false) : t.Ok := (greatB_no h).2 t (by simp)
theorem kind_wh0 {w w1 w2 : World} {R r r' : TR} {u t t' : Tm} (h : TV w R u) (hu : (u.kind == 3) = decide ((5 : Int) = 8 ∨ t.kind = 3 ∨ t'.kind = 3)) (ht : TV w1 r t) (ht' : TV w2 r' t') (hw : false = ((r.k != 3) && (r'.k != 3))) : (R.k == 3) = true := by
  rw [h.kind] at hu
  rw [hu, decide_eq_true_iff, ht.kind, ht'.kind]
  by_cases h3 : r.k = 3
  · exact .inr (.inl h3)
  · refine .inr (.inr ?_)
    rw [show (r.k != 3) = true from bne_iff_ne.2 h3] at hw
    simpa using hw
theorem kind_wh1 {w w1 w2 : World} {R r r' : TR} {u t t' : Tm} (h : TV w R u) (hu : (u.kind == 3) = decide ((5 : Int) = 8 ∨ t.kind = 3 ∨ t'.kind = 3)) (ht : TV w1 r t) (ht' : TV w2 r' t') (hw : true = ((r.k != 3) && (r'.k != 3))) : (R.k == 3) = false := by
  rw [h.kind] at hu
  have hw' := hw.symm
  simp only [Bool.and_eq_true, bne_iff_ne] at hw'
  rw [hu, decide_eq_false_iff_not, ht.kind, ht'.kind]
  rintro (e | e | e)
  · exact absurd e (by decide)
  · exact hw'.1 e
  · exact hw'.2 e
theorem turn_wh {w1 w2 : World} {r r' : TR} {t t' : Tm} (ht : TV w1 r t) (ht' : TV w2 r' t') (ma : t.mayB = true) (mb : t'.mayB = true) (hn : (nbB t.kind && nbB t'.kind) = true) (hw : true = ((r.k != 3) && (r'.k != 3))) :
    (∃ y : Int, doO 7 t' (intT (-1)) = some (intT y)) ∧ ∀ Y, Y = doO 7 t' (intT (-1)) → doO 5 t (mdO Y) = doO 6 t t' := by
  have hw' := hw.symm
  simp only [Bool.and_eq_true, bne_iff_ne] at hw'
  simp only [Bool.and_eq_true] at hn
  have ka : t.kind ≠ 3 := by rw [ht.kind]; exact hw'.1
  have kb : t'.kind ≠ 3 := by rw [ht'.kind]; exact hw'.2
  have na := nb_iff.1 hn.1
  have nb := nb_iff.1 hn.2
  obtain ⟨x, hx⟩ := intO_may ma (by omega)
  obtain ⟨y, hy⟩ := intO_may mb (by omega)
  obtain ⟨h1, h2⟩ := doO_turn ka kb hx hy (intO_top ht' hy)
  refine ⟨⟨_, h1⟩, fun Y hY => ?_⟩
  rw [hY, h1]
  exact h2

set_option maxRecDepth 100000 in
set_option maxHeartbeats 40000000 in
theorem arithTurns_walk (w : World) (r : TR) (t : Tm) (h : TV w r t) (r' : TR) (t' : Tm) (h' : TV w r' t') :
    Calls Try.prog 3 #[.agg #[.int .i64 r.k, .int .i64 r.n, .bool r.g, .slice r.A r.ln r.lc, .int .u64 r.u, .string r.s, .slice r.B r.m r.d], .agg #[.int .i64 r'.k, .int .i64 r'.n, .bool r'.g, .slice r'.A r'.ln r'.lc, .int .u64 r'.u, .string r'.s, .slice r'.B r'.m r'.d]] w fun e w' => e = .returned (.bool true) ∧ Below w.heap.size w w' := by
  have bb := ((Below.refl w.heap.size w).alloc (Nat.le_refl _) (.cells #[.int .i64 r.k, .int .i64 r.n, .bool r.g, .slice r.A r.ln r.lc, .int .u64 r.u, .string r.s, .slice r.B r.m r.d] 28)).alloc (by simp) (.cells #[.int .i64 r'.k, .int .i64 r'.n, .bool r'.g, .slice r'.A r'.ln r'.lc, .int .u64 r'.u, .string r'.s, .slice r'.B r'.m r'.d] 28)
  have Va := (Vt.new h).below ((Below.refl _ _).alloc (Nat.le_refl _) (.cells #[.int .i64 r'.k, .int .i64 r'.n, .bool r'.g, .slice r'.A r'.ln r'.lc, .int .u64 r'.u, .string r'.s, .slice r'.B r'.m r'.d] 28))
  have Vb := Vt.new (h'.bel ((Below.refl _ _).alloc (Nat.le_refl _) (.cells #[.int .i64 r.k, .int .i64 r.n, .bool r.g, .slice r.A r.ln r.lc, .int .u64 r.u, .string r.s, .slice r.B r.m r.d] 28)))
  rw [World.size_alloc] at Vb
  clear h h'
  go_enter Try.func3, Try.ntmps3
  go_upto_region 1 with fail
  generalize (w.alloc (.cells #[.int .i64 r.k, .int .i64 r.n, .bool r.g, .slice r.A r.ln r.lc, .int .u64 r.u, .string r.s, .slice r.B r.m r.d] 28)).alloc (.cells #[.int .i64 r'.k, .int .i64 r'.n, .bool r'.g, .slice r'.A r'.ln r'.lc, .int .u64 r'.u, .string r'.s, .slice r'.B r'.m r'.d] 28) = W0 at *
  have y0 := Va.bx.at.c0; have y1 := Va.bx.at.c1; have y2 := Va.bx.at.c2; have y3 := Va.bx.at.c3; have y4 := Va.bx.at.c4; have y5 := Va.bx.at.c5; have y6 := Va.bx.at.c6
  go_wp2_with fail
  refine (greatT_any W0 r t Va.tv 400 (by omega) (by omega)).mono ?_
  cases g1 : greatB [t] 400 with
  | true =>
    rintro e a1 ⟨rfl, hb⟩
    have bb' := bb.trans (hb.mono bb.size)
    clear y0 y1 y2 y3 y4 y5 y6
    go_wp2_with fail
    refine (awake6 a1).mono ?_
    rintro e z1 ⟨rfl, hz1⟩
    go_wp2
    go_ret
    exact ⟨rfl, bb'.trans (hz1.mono bb'.size)⟩
  | false =>
    rintro e a1 ⟨rfl, hb⟩
    have Va' := Va.below hb
    clear Va
    have Va := Va'
    clear Va'
    have Vb' := Vb.below hb
    clear Vb
    have Vb := Vb'
    clear Vb'
    have bb' := bb.trans (hb.mono bb.size)
    clear bb
    have bb := bb'
    clear bb'
    clear hb y0 y1 y2 y3 y4 y5 y6
    have ok1 := greatB_one g1
    have y0 := Vb.bx.at.c0; have y1 := Vb.bx.at.c1; have y2 := Vb.bx.at.c2; have y3 := Vb.bx.at.c3; have y4 := Vb.bx.at.c4; have y5 := Vb.bx.at.c5; have y6 := Vb.bx.at.c6
    go_wp2_with fail
    refine (greatT_any a1 r' t' Vb.tv 400 (by omega) (by omega)).mono ?_
    cases g2 : greatB [t'] 400 with
    | true =>
      rintro e a2 ⟨rfl, hb⟩
      have bb' := bb.trans (hb.mono bb.size)
      clear y0 y1 y2 y3 y4 y5 y6
      go_wp2_with fail
      refine (awake6 a2).mono ?_
      rintro e z1 ⟨rfl, hz1⟩
      go_wp2
      go_ret
      exact ⟨rfl, bb'.trans (hz1.mono bb'.size)⟩
    | false =>
      rintro e a2 ⟨rfl, hb⟩
      have Va' := Va.below hb
      clear Va
      have Va := Va'
      clear Va'
      have Vb' := Vb.below hb
      clear Vb
      have Vb := Vb'
      clear Vb'
      have bb' := bb.trans (hb.mono bb.size)
      clear bb
      have bb := bb'
      clear bb'
      clear hb y0 y1 y2 y3 y4 y5 y6
      have ok2 := greatB_one g2
      have y0 := Va.bx.at.c0; have y1 := Va.bx.at.c1; have y2 := Va.bx.at.c2; have y3 := Va.bx.at.c3; have y4 := Va.bx.at.c4; have y5 := Va.bx.at.c5; have y6 := Va.bx.at.c6
      go_wp2_with fail
      refine (mayTerm_any a2 r t Va.tv ok1).mono ?_
      cases g3 : Tm.mayB t with
      | false =>
        rintro e a3 ⟨rfl, hb⟩
        have bb' := bb.trans (hb.mono bb.size)
        clear y0 y1 y2 y3 y4 y5 y6
        go_wp2_with fail
        refine (awake6 a3).mono ?_
        rintro e z1 ⟨rfl, hz1⟩
        go_wp2
        go_ret
        exact ⟨rfl, bb'.trans (hz1.mono bb'.size)⟩
      | true =>
        rintro e a3 ⟨rfl, hb⟩
        have Va' := Va.below hb
        clear Va
        have Va := Va'
        clear Va'
        have Vb' := Vb.below hb
        clear Vb
        have Vb := Vb'
        clear Vb'
        have bb' := bb.trans (hb.mono bb.size)
        clear bb
        have bb := bb'
        clear bb'
        clear hb y0 y1 y2 y3 y4 y5 y6
        have y0 := Vb.bx.at.c0; have y1 := Vb.bx.at.c1; have y2 := Vb.bx.at.c2; have y3 := Vb.bx.at.c3; have y4 := Vb.bx.at.c4; have y5 := Vb.bx.at.c5; have y6 := Vb.bx.at.c6
        go_wp2_with fail
        refine (mayTerm_any a3 r' t' Vb.tv ok2).mono ?_
        cases g4 : Tm.mayB t' with
        | false =>
          rintro e a4 ⟨rfl, hb⟩
          have bb' := bb.trans (hb.mono bb.size)
          clear y0 y1 y2 y3 y4 y5 y6
          go_wp2_with fail
          refine (awake6 a4).mono ?_
          rintro e z1 ⟨rfl, hz1⟩
          go_wp2
          go_ret
          exact ⟨rfl, bb'.trans (hz1.mono bb'.size)⟩
        | true =>
          rintro e a4 ⟨rfl, hb⟩
          have Va' := Va.below hb
          clear Va
          have Va := Va'
          clear Va'
          have Vb' := Vb.below hb
          clear Vb
          have Vb := Vb'
          clear Vb'
          have bb' := bb.trans (hb.mono bb.size)
          clear bb
          have bb := bb'
          clear bb'
          clear hb y0 y1 y2 y3 y4 y5 y6
          obtain ⟨S, hS⟩ : ∃ S, S = doO 5 t t' := ⟨_, rfl⟩
          obtain ⟨M, hM⟩ : ∃ M, M = doO 7 t t' := ⟨_, rfl⟩
          obtain ⟨Q, hQ⟩ : ∃ Q, Q = doO 8 t t' := ⟨_, rfl⟩
          have HS := Lib.hid hS
          have HM := Lib.hid hM
          have HQ := Lib.hid hQ
          have HT := Lib.hid (hS.trans (doO_comm (.inl rfl) t t'))
          have HN := Lib.hid (hM.trans (doO_comm (.inr rfl) t t'))
          clear hS hM hQ
          have GA := Lib.hid g3
          have GB := Lib.hid g4
          clear g1 g2 g3 g4
          obtain ⟨E, hE⟩ : ∃ E, E = rsO S := ⟨_, rfl⟩
          obtain ⟨G, hG⟩ : ∃ G, G = rsO M := ⟨_, rfl⟩
          obtain ⟨I, hI⟩ : ∃ I, I = rsO Q := ⟨_, rfl⟩
          have HE := Lib.hid hE
          have HG := Lib.hid hG
          have HI := Lib.hid hI
          clear hE hG hI
          go_upto_region 3 with fail
          go_cut [5, 6] from 40 to 45 (fun p i wx => ∃ (g : Nat) (R : TR), p = .pointer (some ⟨g, 0, none⟩) ∧ i = .int .i64 E ∧ Vt wx g R (mdO S) ∧ Below a4.heap.size a4 wx)
          case first =>
            have y0 := Va.bx.at.c0; have y1 := Va.bx.at.c1; have y2 := Va.bx.at.c2; have y3 := Va.bx.at.c3; have y4 := Va.bx.at.c4; have y5 := Va.bx.at.c5; have y6 := Va.bx.at.c6; have x0 := Vb.bx.at.c0; have x1 := Vb.bx.at.c1; have x2 := Vb.bx.at.c2; have x3 := Vb.bx.at.c3; have x4 := Vb.bx.at.c4; have x5 := Vb.bx.at.c5; have x6 := Vb.bx.at.c6
            go_wp2_with fail
            refine (do_any a4 5 r r' t t' Va.tv Vb.tv ok1 ok2).mono ?_
            rw [← HS.out]
            rintro e v1 ⟨Rs, he, T, -, -, hb⟩
            rw [← HE.out] at he
            subst he
            clear y0 y1 y2 y3 y4 y5 y6 x0 x1 x2 x3 x4 x5 x6
            go_wp2_with fail
            go_meet
            exact ⟨v1.heap.size, Rs, rfl, rfl, Vt.new T, hb.alloc hb.size _⟩
          obtain ⟨g1, Rs, rfl, rfl, Vs0, hb⟩ := hcut
          have Va' := Va.below hb
          clear Va
          have Va := Va'
          clear Va'
          have Vb' := Vb.below hb
          clear Vb
          have Vb := Vb'
          clear Vb'
          have bb' := bb.trans (hb.mono bb.size)
          clear bb
          have bb := bb'
          clear bb'
          clear hb
          have Vs := Vs0
          clear Vs0
          generalize wc = Y1 at *
          go_upto_region 4 with fail
          go_cut [7, 8] from 46 to 51 (fun p i wx => ∃ (g : Nat) (R : TR), p = .pointer (some ⟨g, 0, none⟩) ∧ i = .int .i64 E ∧ Vt wx g R (mdO S) ∧ Below Y1.heap.size Y1 wx)
          case first =>
            have y0 := Vb.bx.at.c0; have y1 := Vb.bx.at.c1; have y2 := Vb.bx.at.c2; have y3 := Vb.bx.at.c3; have y4 := Vb.bx.at.c4; have y5 := Vb.bx.at.c5; have y6 := Vb.bx.at.c6; have x0 := Va.bx.at.c0; have x1 := Va.bx.at.c1; have x2 := Va.bx.at.c2; have x3 := Va.bx.at.c3; have x4 := Va.bx.at.c4; have x5 := Va.bx.at.c5; have x6 := Va.bx.at.c6
            go_wp2_with fail
            refine (do_any Y1 5 r' r t' t Vb.tv Va.tv ok2 ok1).mono ?_
            rw [← HT.out]
            rintro e v2 ⟨Rt, he, T, -, -, hb⟩
            rw [← HE.out] at he
            subst he
            clear y0 y1 y2 y3 y4 y5 y6 x0 x1 x2 x3 x4 x5 x6
            go_wp2_with fail
            go_meet
            exact ⟨v2.heap.size, Rt, rfl, rfl, Vt.new T, hb.alloc hb.size _⟩
          obtain ⟨g2, Rt, rfl, rfl, Vt20, hb⟩ := hcut
          have Va' := Va.below hb
          clear Va
          have Va := Va'
          clear Va'
          have Vb' := Vb.below hb
          clear Vb
          have Vb := Vb'
          clear Vb'
          have Vs' := Vs.below hb
          clear Vs
          have Vs := Vs'
          clear Vs'
          have bb' := bb.trans (hb.mono bb.size)
          clear bb
          have bb := bb'
          clear bb'
          clear hb
          have Vt2 := Vt20
          clear Vt20
          generalize wc = Y2 at *
          go_upto_region 5 with fail
          go_cut [9, 10] from 52 to 57 (fun p i wx => ∃ (g : Nat) (R : TR), p = .pointer (some ⟨g, 0, none⟩) ∧ i = .int .i64 G ∧ Vt wx g R (mdO M) ∧ Below Y2.heap.size Y2 wx)
          case first =>
            have y0 := Va.bx.at.c0; have y1 := Va.bx.at.c1; have y2 := Va.bx.at.c2; have y3 := Va.bx.at.c3; have y4 := Va.bx.at.c4; have y5 := Va.bx.at.c5; have y6 := Va.bx.at.c6; have x0 := Vb.bx.at.c0; have x1 := Vb.bx.at.c1; have x2 := Vb.bx.at.c2; have x3 := Vb.bx.at.c3; have x4 := Vb.bx.at.c4; have x5 := Vb.bx.at.c5; have x6 := Vb.bx.at.c6
            go_wp2_with fail
            refine (do_any Y2 7 r r' t t' Va.tv Vb.tv ok1 ok2).mono ?_
            rw [← HM.out]
            rintro e v3 ⟨Rm, he, T, -, -, hb⟩
            rw [← HG.out] at he
            subst he
            clear y0 y1 y2 y3 y4 y5 y6 x0 x1 x2 x3 x4 x5 x6
            go_wp2_with fail
            go_meet
            exact ⟨v3.heap.size, Rm, rfl, rfl, Vt.new T, hb.alloc hb.size _⟩
          obtain ⟨g3, Rm, rfl, rfl, Vm0, hb⟩ := hcut
          have Va' := Va.below hb
          clear Va
          have Va := Va'
          clear Va'
          have Vb' := Vb.below hb
          clear Vb
          have Vb := Vb'
          clear Vb'
          have Vs' := Vs.below hb
          clear Vs
          have Vs := Vs'
          clear Vs'
          have Vt2' := Vt2.below hb
          clear Vt2
          have Vt2 := Vt2'
          clear Vt2'
          have bb' := bb.trans (hb.mono bb.size)
          clear bb
          have bb := bb'
          clear bb'
          clear hb
          have Vm := Vm0
          clear Vm0
          generalize wc = Y3 at *
          go_upto_region 6 with fail
          go_cut [11, 12] from 58 to 63 (fun p i wx => ∃ (g : Nat) (R : TR), p = .pointer (some ⟨g, 0, none⟩) ∧ i = .int .i64 G ∧ Vt wx g R (mdO M) ∧ Below Y3.heap.size Y3 wx)
          case first =>
            have y0 := Vb.bx.at.c0; have y1 := Vb.bx.at.c1; have y2 := Vb.bx.at.c2; have y3 := Vb.bx.at.c3; have y4 := Vb.bx.at.c4; have y5 := Vb.bx.at.c5; have y6 := Vb.bx.at.c6; have x0 := Va.bx.at.c0; have x1 := Va.bx.at.c1; have x2 := Va.bx.at.c2; have x3 := Va.bx.at.c3; have x4 := Va.bx.at.c4; have x5 := Va.bx.at.c5; have x6 := Va.bx.at.c6
            go_wp2_with fail
            refine (do_any Y3 7 r' r t' t Vb.tv Va.tv ok2 ok1).mono ?_
            rw [← HN.out]
            rintro e v4 ⟨Rn, he, T, -, -, hb⟩
            rw [← HG.out] at he
            subst he
            clear y0 y1 y2 y3 y4 y5 y6 x0 x1 x2 x3 x4 x5 x6
            go_wp2_with fail
            go_meet
            exact ⟨v4.heap.size, Rn, rfl, rfl, Vt.new T, hb.alloc hb.size _⟩
          obtain ⟨g4, Rn, rfl, rfl, Vn0, hb⟩ := hcut
          have Va' := Va.below hb
          clear Va
          have Va := Va'
          clear Va'
          have Vb' := Vb.below hb
          clear Vb
          have Vb := Vb'
          clear Vb'
          have Vs' := Vs.below hb
          clear Vs
          have Vs := Vs'
          clear Vs'
          have Vt2' := Vt2.below hb
          clear Vt2
          have Vt2 := Vt2'
          clear Vt2'
          have Vm' := Vm.below hb
          clear Vm
          have Vm := Vm'
          clear Vm'
          have bb' := bb.trans (hb.mono bb.size)
          clear bb
          have bb := bb'
          clear bb'
          clear hb
          have Vn := Vn0
          clear Vn0
          generalize wc = Y4 at *
          go_upto_region 7 with fail
          go_cut [13, 14] from 64 to 69 (fun p i wx => ∃ (g : Nat) (R : TR), p = .pointer (some ⟨g, 0, none⟩) ∧ i = .int .i64 I ∧ Vt wx g R (mdO Q) ∧ Below Y4.heap.size Y4 wx)
          case first =>
            have y0 := Va.bx.at.c0; have y1 := Va.bx.at.c1; have y2 := Va.bx.at.c2; have y3 := Va.bx.at.c3; have y4 := Va.bx.at.c4; have y5 := Va.bx.at.c5; have y6 := Va.bx.at.c6; have x0 := Vb.bx.at.c0; have x1 := Vb.bx.at.c1; have x2 := Vb.bx.at.c2; have x3 := Vb.bx.at.c3; have x4 := Vb.bx.at.c4; have x5 := Vb.bx.at.c5; have x6 := Vb.bx.at.c6
            go_wp2_with fail
            refine (do_any Y4 8 r r' t t' Va.tv Vb.tv ok1 ok2).mono ?_
            rw [← HQ.out]
            rintro e v5 ⟨Rq, he, T, -, -, hb⟩
            rw [← HI.out] at he
            subst he
            clear y0 y1 y2 y3 y4 y5 y6 x0 x1 x2 x3 x4 x5 x6
            go_wp2_with fail
            go_meet
            exact ⟨v5.heap.size, Rq, rfl, rfl, Vt.new T, hb.alloc hb.size _⟩
          obtain ⟨g5, Rq, rfl, rfl, Vq0, hb⟩ := hcut
          have Va' := Va.below hb
          clear Va
          have Va := Va'
          clear Va'
          have Vb' := Vb.below hb
          clear Vb
          have Vb := Vb'
          clear Vb'
          have Vs' := Vs.below hb
          clear Vs
          have Vs := Vs'
          clear Vs'
          have Vt2' := Vt2.below hb
          clear Vt2
          have Vt2 := Vt2'
          clear Vt2'
          have Vm' := Vm.below hb
          clear Vm
          have Vm := Vm'
          clear Vm'
          have Vn' := Vn.below hb
          clear Vn
          have Vn := Vn'
          clear Vn'
          have bb' := bb.trans (hb.mono bb.size)
          clear bb
          have bb := bb'
          clear bb'
          clear hb
          have Vq := Vq0
          clear Vq0
          generalize wc = Y5 at *
          go_upto_region 8 with fail
          clear HT HN
          obtain ⟨wh, hwh⟩ : ∃ wh, wh = ((r.k != 3) && (r'.k != 3)) := ⟨_, rfl⟩
          have HW := Lib.hid hwh
          clear hwh
          obtain ⟨nb, hnb⟩ : ∃ nb, nb = (nbB r.k && nbB r'.k) := ⟨_, rfl⟩
          have HNB := Lib.hid hnb
          clear hnb
          go_cut [15] from 70 to 77 (fun x wx => x = .bool wh ∧ wx = Y5)
          case first =>
            have y0 := Va.bx.at.c0
            have x0 := Vb.bx.at.c0
            cases h3 : (r.k != 3) with
            | false =>
              go_wp2_with fail
              go_meet
              exact ⟨by rw [HW.out, h3]; rfl, rfl⟩
            | true =>
              cases h4 : (r'.k != 3) with
              | false =>
                go_wp2_with fail
                go_meet
                exact ⟨by rw [HW.out, h3, h4]; rfl, rfl⟩
              | true =>
                go_wp2_with fail
                go_meet
                exact ⟨by rw [HW.out, h3, h4]; rfl, rfl⟩
          obtain ⟨rfl, rfl⟩ := hcut
          go_upto_region 9 with fail
          go_cut [16] from 78 to 105 (fun x wx => x = .bool nb ∧ wx = wc)
          case first =>
            have y0 := Va.bx.at.c0
            have x0 := Vb.bx.at.c0
            cases a1 : (r.k == 1) with
            | true =>
              cases b1 : (r'.k == 1) with
              | true =>
                go_wp2_with fail
                go_meet
                exact ⟨by rw [HNB.out]; simp [nbB, a1, b1], rfl⟩
              | false =>
                cases b2 : (r'.k == 2) with
                | true =>
                  go_wp2_with fail
                  go_meet
                  exact ⟨by rw [HNB.out]; simp [nbB, a1, b1, b2], rfl⟩
                | false =>
                  cases b3 : (r'.k == 3) with
                  | true =>
                    go_wp2_with fail
                    go_meet
                    exact ⟨by rw [HNB.out]; simp [nbB, a1, b1, b2, b3], rfl⟩
                  | false =>
                    go_wp2_with fail
                    go_meet
                    exact ⟨by rw [HNB.out]; simp [nbB, a1, b1, b2, b3], rfl⟩
            | false =>
              cases a2 : (r.k == 2) with
              | true =>
                cases b1 : (r'.k == 1) with
                | true =>
                  go_wp2_with fail
                  go_meet
                  exact ⟨by rw [HNB.out]; simp [nbB, a1, a2, b1], rfl⟩
                | false =>
                  cases b2 : (r'.k == 2) with
                  | true =>
                    go_wp2_with fail
                    go_meet
                    exact ⟨by rw [HNB.out]; simp [nbB, a1, a2, b1, b2], rfl⟩
                  | false =>
                    cases b3 : (r'.k == 3) with
                    | true =>
                      go_wp2_with fail
                      go_meet
                      exact ⟨by rw [HNB.out]; simp [nbB, a1, a2, b1, b2, b3], rfl⟩
                    | false =>
                      go_wp2_with fail
                      go_meet
                      exact ⟨by rw [HNB.out]; simp [nbB, a1, a2, b1, b2, b3], rfl⟩
              | false =>
                cases a3 : (r.k == 3) with
                | true =>
                  cases b1 : (r'.k == 1) with
                  | true =>
                    go_wp2_with fail
                    go_meet
                    exact ⟨by rw [HNB.out]; simp [nbB, a1, a2, a3, b1], rfl⟩
                  | false =>
                    cases b2 : (r'.k == 2) with
                    | true =>
                      go_wp2_with fail
                      go_meet
                      exact ⟨by rw [HNB.out]; simp [nbB, a1, a2, a3, b1, b2], rfl⟩
                    | false =>
                      cases b3 : (r'.k == 3) with
                      | true =>
                        go_wp2_with fail
                        go_meet
                        exact ⟨by rw [HNB.out]; simp [nbB, a1, a2, a3, b1, b2, b3], rfl⟩
                      | false =>
                        go_wp2_with fail
                        go_meet
                        exact ⟨by rw [HNB.out]; simp [nbB, a1, a2, a3, b1, b2, b3], rfl⟩
                | false =>
                  go_wp2_with fail
                  go_meet
                  exact ⟨by rw [HNB.out]; simp [nbB, a1, a2, a3], rfl⟩
          obtain ⟨rfl, rfl⟩ := hcut
          generalize wc = C0 at *
          go_upto_region 10 with fail
          cases hnb : nb with
          | false =>
            have HK := Lib.hid (show (nbB t.kind && nbB t'.kind) = false by rw [Va.tv.kind, Vb.tv.kind, ← HNB.out, hnb])
            obtain rfl : E = 1 := by rw [HE.out, HS.out, doO_nb HK.out]; rfl
            obtain rfl : G = 1 := by rw [HG.out, HM.out, doO_nb HK.out]; rfl
            obtain rfl : I = 1 := by rw [HI.out, HQ.out, doO_nb HK.out]; rfl
            clear hnb
            have y0 := Vs.bx.at.c0; have y1 := Vs.bx.at.c1; have y2 := Vs.bx.at.c2; have y3 := Vs.bx.at.c3; have y4 := Vs.bx.at.c4; have y5 := Vs.bx.at.c5; have y6 := Vs.bx.at.c6; have x0 := Vt2.bx.at.c0; have x1 := Vt2.bx.at.c1; have x2 := Vt2.bx.at.c2; have x3 := Vt2.bx.at.c3; have x4 := Vt2.bx.at.c4; have x5 := Vt2.bx.at.c5; have x6 := Vt2.bx.at.c6
            go_wp2_with fail
            refine (sameTerm_eq (mdO S) C0 Rs Rt Vs.tv Vt2.tv).mono ?_
            rintro e c1 ⟨rfl, hb⟩
            have Va' := Va.below hb
            clear Va
            have Va := Va'
            clear Va'
            have Vb' := Vb.below hb
            clear Vb
            have Vb := Vb'
            clear Vb'
            have Vs' := Vs.below hb
            clear Vs
            have Vs := Vs'
            clear Vs'
            have Vt2' := Vt2.below hb
            clear Vt2
            have Vt2 := Vt2'
            clear Vt2'
            have Vm' := Vm.below hb
            clear Vm
            have Vm := Vm'
            clear Vm'
            have Vn' := Vn.below hb
            clear Vn
            have Vn := Vn'
            clear Vn'
            have Vq' := Vq.below hb
            clear Vq
            have Vq := Vq'
            clear Vq'
            have bb' := bb.trans (hb.mono bb.size)
            clear bb
            have bb := bb'
            clear bb'
            clear hb y0 y1 y2 y3 y4 y5 y6 x0 x1 x2 x3 x4 x5 x6
            have y0 := Vm.bx.at.c0; have y1 := Vm.bx.at.c1; have y2 := Vm.bx.at.c2; have y3 := Vm.bx.at.c3; have y4 := Vm.bx.at.c4; have y5 := Vm.bx.at.c5; have y6 := Vm.bx.at.c6; have x0 := Vn.bx.at.c0; have x1 := Vn.bx.at.c1; have x2 := Vn.bx.at.c2; have x3 := Vn.bx.at.c3; have x4 := Vn.bx.at.c4; have x5 := Vn.bx.at.c5; have x6 := Vn.bx.at.c6
            go_wp2_with fail
            refine (sameTerm_eq (mdO M) c1 Rm Rn Vm.tv Vn.tv).mono ?_
            rintro e c2 ⟨rfl, hb⟩
            have Va' := Va.below hb
            clear Va
            have Va := Va'
            clear Va'
            have Vb' := Vb.below hb
            clear Vb
            have Vb := Vb'
            clear Vb'
            have Vs' := Vs.below hb
            clear Vs
            have Vs := Vs'
            clear Vs'
            have Vt2' := Vt2.below hb
            clear Vt2
            have Vt2 := Vt2'
            clear Vt2'
            have Vm' := Vm.below hb
            clear Vm
            have Vm := Vm'
            clear Vm'
            have Vn' := Vn.below hb
            clear Vn
            have Vn := Vn'
            clear Vn'
            have Vq' := Vq.below hb
            clear Vq
            have Vq := Vq'
            clear Vq'
            have bb' := bb.trans (hb.mono bb.size)
            clear bb
            have bb := bb'
            clear bb'
            clear hb y0 y1 y2 y3 y4 y5 y6 x0 x1 x2 x3 x4 x5 x6
            go_wp2_with fail
            refine (awake6 c2).mono ?_
            rintro e z1 ⟨rfl, hz1⟩
            go_wp2
            go_ret
            exact ⟨rfl, bb.trans (hz1.mono bb.size)⟩
          | true =>
            have HK := Lib.hid (show (nbB t.kind && nbB t'.kind) = true by rw [Va.tv.kind, Vb.tv.kind, ← HNB.out, hnb])
            obtain ⟨qv, hqv, clq⟩ := doO_div GA.out GB.out HK.out
            obtain rfl : Q = some (fltT qv) := by rw [HQ.out, hqv]
            obtain rfl : I = -1 := by rw [HI.out]; rfl
            have CQ := Lib.hid clq
            clear hnb hqv clq
            have y0 := Vs.bx.at.c0; have y1 := Vs.bx.at.c1; have y2 := Vs.bx.at.c2; have y3 := Vs.bx.at.c3; have y4 := Vs.bx.at.c4; have y5 := Vs.bx.at.c5; have y6 := Vs.bx.at.c6; have x0 := Vt2.bx.at.c0; have x1 := Vt2.bx.at.c1; have x2 := Vt2.bx.at.c2; have x3 := Vt2.bx.at.c3; have x4 := Vt2.bx.at.c4; have x5 := Vt2.bx.at.c5; have x6 := Vt2.bx.at.c6
            go_wp2_with fail
            refine (sameTerm_eq (mdO S) C0 Rs Rt Vs.tv Vt2.tv).mono ?_
            rintro e c1 ⟨rfl, hb⟩
            have Va' := Va.below hb
            clear Va
            have Va := Va'
            clear Va'
            have Vb' := Vb.below hb
            clear Vb
            have Vb := Vb'
            clear Vb'
            have Vs' := Vs.below hb
            clear Vs
            have Vs := Vs'
            clear Vs'
            have Vt2' := Vt2.below hb
            clear Vt2
            have Vt2 := Vt2'
            clear Vt2'
            have Vm' := Vm.below hb
            clear Vm
            have Vm := Vm'
            clear Vm'
            have Vn' := Vn.below hb
            clear Vn
            have Vn := Vn'
            clear Vn'
            have Vq' := Vq.below hb
            clear Vq
            have Vq := Vq'
            clear Vq'
            have bb' := bb.trans (hb.mono bb.size)
            clear bb
            have bb := bb'
            clear bb'
            clear hb y0 y1 y2 y3 y4 y5 y6 x0 x1 x2 x3 x4 x5 x6
            have y0 := Vm.bx.at.c0; have y1 := Vm.bx.at.c1; have y2 := Vm.bx.at.c2; have y3 := Vm.bx.at.c3; have y4 := Vm.bx.at.c4; have y5 := Vm.bx.at.c5; have y6 := Vm.bx.at.c6; have x0 := Vn.bx.at.c0; have x1 := Vn.bx.at.c1; have x2 := Vn.bx.at.c2; have x3 := Vn.bx.at.c3; have x4 := Vn.bx.at.c4; have x5 := Vn.bx.at.c5; have x6 := Vn.bx.at.c6
            go_wp2_with fail
            refine (sameTerm_eq (mdO M) c1 Rm Rn Vm.tv Vn.tv).mono ?_
            rintro e c2 ⟨rfl, hb⟩
            have Va' := Va.below hb
            clear Va
            have Va := Va'
            clear Va'
            have Vb' := Vb.below hb
            clear Vb
            have Vb := Vb'
            clear Vb'
            have Vs' := Vs.below hb
            clear Vs
            have Vs := Vs'
            clear Vs'
            have Vt2' := Vt2.below hb
            clear Vt2
            have Vt2 := Vt2'
            clear Vt2'
            have Vm' := Vm.below hb
            clear Vm
            have Vm := Vm'
            clear Vm'
            have Vn' := Vn.below hb
            clear Vn
            have Vn := Vn'
            clear Vn'
            have Vq' := Vq.below hb
            clear Vq
            have Vq := Vq'
            clear Vq'
            have bb' := bb.trans (hb.mono bb.size)
            clear bb
            have bb := bb'
            clear bb'
            clear hb y0 y1 y2 y3 y4 y5 y6 x0 x1 x2 x3 x4 x5 x6
            have hq3 : (Rq.k != 3) = false := by rw [← Vq.tv.kind]; rfl
            clear Vt2 Vn
            go_upto_region 14 with fail
            go_cut [175] from 143 to 174 (fun x wx => x = .bool false ∧ Below c2.heap.size c2 wx)
            case first =>
              have BD := Below.refl c2.heap.size c2
              cases wh with
              | false =>
                cases S with
                | none =>
                  cases M with
                  | none =>
                    obtain rfl : E = 1 := by rw [HE.out]; rfl
                    obtain rfl : G = 1 := by rw [HG.out]; rfl
                    have q0 := Vq.bx.at.c0
                    have y0 := Vq.bx.at.c0; have y1 := Vq.bx.at.c1; have y2 := Vq.bx.at.c2; have y3 := Vq.bx.at.c3; have y4 := Vq.bx.at.c4; have y5 := Vq.bx.at.c5; have y6 := Vq.bx.at.c6
                    go_wp2_with fail
                    refine (mayTerm_any c2 Rq (fltT qv) Vq.tv (flt_ok qv)).mono ?_
                    rw [flt_may CQ.out]
                    rintro e d1 ⟨rfl, hb⟩
                    have Vs' := Vs.below hb
                    clear Vs
                    have Vs := Vs'
                    clear Vs'
                    have Vm' := Vm.below hb
                    clear Vm
                    have Vm := Vm'
                    clear Vm'
                    have Vq' := Vq.below hb
                    clear Vq
                    have Vq := Vq'
                    clear Vq'
                    have BD' := BD.trans (hb.mono BD.size)
                    clear BD
                    have BD := BD'
                    clear BD' hb y0 y1 y2 y3 y4 y5 y6
                    clear q0
                    go_wp2_with fail
                    go_meet
                    exact ⟨rfl, BD⟩
                  | some um =>
                    obtain rfl : E = 1 := by rw [HE.out]; rfl
                    obtain rfl : G = -1 := by rw [HG.out]; rfl
                    have MM := doO_made HM.out.symm
                    have mm : (mdO (some um)).mayB = true := MM.1
                    have om : (mdO (some um)).Ok := MM.2.1
                    clear MM
                    have y0 := Vm.bx.at.c0; have y1 := Vm.bx.at.c1; have y2 := Vm.bx.at.c2; have y3 := Vm.bx.at.c3; have y4 := Vm.bx.at.c4; have y5 := Vm.bx.at.c5; have y6 := Vm.bx.at.c6
                    go_wp2_with fail
                    refine (mayTerm_any c2 Rm (mdO (some um)) Vm.tv om).mono ?_
                    rw [mm]
                    rintro e d1 ⟨rfl, hb⟩
                    have Vs' := Vs.below hb
                    clear Vs
                    have Vs := Vs'
                    clear Vs'
                    have Vm' := Vm.below hb
                    clear Vm
                    have Vm := Vm'
                    clear Vm'
                    have Vq' := Vq.below hb
                    clear Vq
                    have Vq := Vq'
                    clear Vq'
                    have BD' := BD.trans (hb.mono BD.size)
                    clear BD
                    have BD := BD'
                    clear BD' hb y0 y1 y2 y3 y4 y5 y6
                    have q0 := Vq.bx.at.c0
                    have y0 := Vq.bx.at.c0; have y1 := Vq.bx.at.c1; have y2 := Vq.bx.at.c2; have y3 := Vq.bx.at.c3; have y4 := Vq.bx.at.c4; have y5 := Vq.bx.at.c5; have y6 := Vq.bx.at.c6
                    go_wp2_with fail
                    refine (mayTerm_any d1 Rq (fltT qv) Vq.tv (flt_ok qv)).mono ?_
                    rw [flt_may CQ.out]
                    rintro e d2 ⟨rfl, hb⟩
                    have Vs' := Vs.below hb
                    clear Vs
                    have Vs := Vs'
                    clear Vs'
                    have Vm' := Vm.below hb
                    clear Vm
                    have Vm := Vm'
                    clear Vm'
                    have Vq' := Vq.below hb
                    clear Vq
                    have Vq := Vq'
                    clear Vq'
                    have BD' := BD.trans (hb.mono BD.size)
                    clear BD
                    have BD := BD'
                    clear BD' hb y0 y1 y2 y3 y4 y5 y6
                    clear q0
                    go_wp2_with fail
                    go_meet
                    exact ⟨rfl, BD⟩
                | some us =>
                  cases M with
                  | none =>
                    obtain rfl : E = -1 := by rw [HE.out]; rfl
                    have MS := doO_made HS.out.symm
                    have ms : (mdO (some us)).mayB = true := MS.1
                    have os : (mdO (some us)).Ok := MS.2.1
                    have ks : (Rs.k == 3) = true := kind_wh0 Vs.tv MS.2.2 Va.tv Vb.tv HW.out
                    clear MS
                    obtain rfl : G = 1 := by rw [HG.out]; rfl
                    have s0 := Vs.bx.at.c0
                    clear s0
                    have y0 := Vs.bx.at.c0; have y1 := Vs.bx.at.c1; have y2 := Vs.bx.at.c2; have y3 := Vs.bx.at.c3; have y4 := Vs.bx.at.c4; have y5 := Vs.bx.at.c5; have y6 := Vs.bx.at.c6
                    go_wp2_with fail
                    refine (mayTerm_any c2 Rs (mdO (some us)) Vs.tv os).mono ?_
                    rw [ms]
                    rintro e d1 ⟨rfl, hb⟩
                    have Vs' := Vs.below hb
                    clear Vs
                    have Vs := Vs'
                    clear Vs'
                    have Vm' := Vm.below hb
                    clear Vm
                    have Vm := Vm'
                    clear Vm'
                    have Vq' := Vq.below hb
                    clear Vq
                    have Vq := Vq'
                    clear Vq'
                    have BD' := BD.trans (hb.mono BD.size)
                    clear BD
                    have BD := BD'
                    clear BD' hb y0 y1 y2 y3 y4 y5 y6
                    have s0 := Vs.bx.at.c0
                    have q0 := Vq.bx.at.c0
                    have y0 := Vq.bx.at.c0; have y1 := Vq.bx.at.c1; have y2 := Vq.bx.at.c2; have y3 := Vq.bx.at.c3; have y4 := Vq.bx.at.c4; have y5 := Vq.bx.at.c5; have y6 := Vq.bx.at.c6
                    go_wp2_with fail
                    refine (mayTerm_any d1 Rq (fltT qv) Vq.tv (flt_ok qv)).mono ?_
                    rw [flt_may CQ.out]
                    rintro e d2 ⟨rfl, hb⟩
                    have Vs' := Vs.below hb
                    clear Vs
                    have Vs := Vs'
                    clear Vs'
                    have Vm' := Vm.below hb
                    clear Vm
                    have Vm := Vm'
                    clear Vm'
                    have Vq' := Vq.below hb
                    clear Vq
                    have Vq := Vq'
                    clear Vq'
                    have BD' := BD.trans (hb.mono BD.size)
                    clear BD
                    have BD := BD'
                    clear BD' hb y0 y1 y2 y3 y4 y5 y6
                    clear q0
                    go_wp2_with fail
                    go_meet
                    exact ⟨rfl, BD⟩
                  | some um =>
                    obtain rfl : E = -1 := by rw [HE.out]; rfl
                    have MS := doO_made HS.out.symm
                    have ms : (mdO (some us)).mayB = true := MS.1
                    have os : (mdO (some us)).Ok := MS.2.1
                    have ks : (Rs.k == 3) = true := kind_wh0 Vs.tv MS.2.2 Va.tv Vb.tv HW.out
                    clear MS
                    obtain rfl : G = -1 := by rw [HG.out]; rfl
                    have MM := doO_made HM.out.symm
                    have mm : (mdO (some um)).mayB = true := MM.1
                    have om : (mdO (some um)).Ok := MM.2.1
                    clear MM
                    have s0 := Vs.bx.at.c0
                    clear s0
                    have y0 := Vs.bx.at.c0; have y1 := Vs.bx.at.c1; have y2 := Vs.bx.at.c2; have y3 := Vs.bx.at.c3; have y4 := Vs.bx.at.c4; have y5 := Vs.bx.at.c5; have y6 := Vs.bx.at.c6
                    go_wp2_with fail
                    refine (mayTerm_any c2 Rs (mdO (some us)) Vs.tv os).mono ?_
                    rw [ms]
                    rintro e d1 ⟨rfl, hb⟩
                    have Vs' := Vs.below hb
                    clear Vs
                    have Vs := Vs'
                    clear Vs'
                    have Vm' := Vm.below hb
                    clear Vm
                    have Vm := Vm'
                    clear Vm'
                    have Vq' := Vq.below hb
                    clear Vq
                    have Vq := Vq'
                    clear Vq'
                    have BD' := BD.trans (hb.mono BD.size)
                    clear BD
                    have BD := BD'
                    clear BD' hb y0 y1 y2 y3 y4 y5 y6
                    have s0 := Vs.bx.at.c0
                    have y0 := Vm.bx.at.c0; have y1 := Vm.bx.at.c1; have y2 := Vm.bx.at.c2; have y3 := Vm.bx.at.c3; have y4 := Vm.bx.at.c4; have y5 := Vm.bx.at.c5; have y6 := Vm.bx.at.c6
                    go_wp2_with fail
                    refine (mayTerm_any d1 Rm (mdO (some um)) Vm.tv om).mono ?_
                    rw [mm]
                    rintro e d2 ⟨rfl, hb⟩
                    have Vs' := Vs.below hb
                    clear Vs
                    have Vs := Vs'
                    clear Vs'
                    have Vm' := Vm.below hb
                    clear Vm
                    have Vm := Vm'
                    clear Vm'
                    have Vq' := Vq.below hb
                    clear Vq
                    have Vq := Vq'
                    clear Vq'
                    have BD' := BD.trans (hb.mono BD.size)
                    clear BD
                    have BD := BD'
                    clear BD' hb y0 y1 y2 y3 y4 y5 y6
                    clear s0
                    have q0 := Vq.bx.at.c0
                    have y0 := Vq.bx.at.c0; have y1 := Vq.bx.at.c1; have y2 := Vq.bx.at.c2; have y3 := Vq.bx.at.c3; have y4 := Vq.bx.at.c4; have y5 := Vq.bx.at.c5; have y6 := Vq.bx.at.c6
                    go_wp2_with fail
                    refine (mayTerm_any d2 Rq (fltT qv) Vq.tv (flt_ok qv)).mono ?_
                    rw [flt_may CQ.out]
                    rintro e d3 ⟨rfl, hb⟩
                    have Vs' := Vs.below hb
                    clear Vs
                    have Vs := Vs'
                    clear Vs'
                    have Vm' := Vm.below hb
                    clear Vm
                    have Vm := Vm'
                    clear Vm'
                    have Vq' := Vq.below hb
                    clear Vq
                    have Vq := Vq'
                    clear Vq'
                    have BD' := BD.trans (hb.mono BD.size)
                    clear BD
                    have BD := BD'
                    clear BD' hb y0 y1 y2 y3 y4 y5 y6
                    clear q0
                    go_wp2_with fail
                    go_meet
                    exact ⟨rfl, BD⟩
              | true =>
                cases S with
                | none =>
                  cases M with
                  | none =>
                    obtain rfl : E = 1 := by rw [HE.out]; rfl
                    obtain rfl : G = 1 := by rw [HG.out]; rfl
                    have q0 := Vq.bx.at.c0
                    have y0 := Vq.bx.at.c0; have y1 := Vq.bx.at.c1; have y2 := Vq.bx.at.c2; have y3 := Vq.bx.at.c3; have y4 := Vq.bx.at.c4; have y5 := Vq.bx.at.c5; have y6 := Vq.bx.at.c6
                    go_wp2_with fail
                    refine (mayTerm_any c2 Rq (fltT qv) Vq.tv (flt_ok qv)).mono ?_
                    rw [flt_may CQ.out]
                    rintro e d1 ⟨rfl, hb⟩
                    have Vs' := Vs.below hb
                    clear Vs
                    have Vs := Vs'
                    clear Vs'
                    have Vm' := Vm.below hb
                    clear Vm
                    have Vm := Vm'
                    clear Vm'
                    have Vq' := Vq.below hb
                    clear Vq
                    have Vq := Vq'
                    clear Vq'
                    have BD' := BD.trans (hb.mono BD.size)
                    clear BD
                    have BD := BD'
                    clear BD' hb y0 y1 y2 y3 y4 y5 y6
                    clear q0
                    go_wp2_with fail
                    go_meet
                    exact ⟨rfl, BD⟩
                  | some um =>
                    obtain rfl : E = 1 := by rw [HE.out]; rfl
                    obtain rfl : G = -1 := by rw [HG.out]; rfl
                    have MM := doO_made HM.out.symm
                    have mm : (mdO (some um)).mayB = true := MM.1
                    have om : (mdO (some um)).Ok := MM.2.1
                    clear MM
                    have y0 := Vm.bx.at.c0; have y1 := Vm.bx.at.c1; have y2 := Vm.bx.at.c2; have y3 := Vm.bx.at.c3; have y4 := Vm.bx.at.c4; have y5 := Vm.bx.at.c5; have y6 := Vm.bx.at.c6
                    go_wp2_with fail
                    refine (mayTerm_any c2 Rm (mdO (some um)) Vm.tv om).mono ?_
                    rw [mm]
                    rintro e d1 ⟨rfl, hb⟩
                    have Vs' := Vs.below hb
                    clear Vs
                    have Vs := Vs'
                    clear Vs'
                    have Vm' := Vm.below hb
                    clear Vm
                    have Vm := Vm'
                    clear Vm'
                    have Vq' := Vq.below hb
                    clear Vq
                    have Vq := Vq'
                    clear Vq'
                    have BD' := BD.trans (hb.mono BD.size)
                    clear BD
                    have BD := BD'
                    clear BD' hb y0 y1 y2 y3 y4 y5 y6
                    have q0 := Vq.bx.at.c0
                    have y0 := Vq.bx.at.c0; have y1 := Vq.bx.at.c1; have y2 := Vq.bx.at.c2; have y3 := Vq.bx.at.c3; have y4 := Vq.bx.at.c4; have y5 := Vq.bx.at.c5; have y6 := Vq.bx.at.c6
                    go_wp2_with fail
                    refine (mayTerm_any d1 Rq (fltT qv) Vq.tv (flt_ok qv)).mono ?_
                    rw [flt_may CQ.out]
                    rintro e d2 ⟨rfl, hb⟩
                    have Vs' := Vs.below hb
                    clear Vs
                    have Vs := Vs'
                    clear Vs'
                    have Vm' := Vm.below hb
                    clear Vm
                    have Vm := Vm'
                    clear Vm'
                    have Vq' := Vq.below hb
                    clear Vq
                    have Vq := Vq'
                    clear Vq'
                    have BD' := BD.trans (hb.mono BD.size)
                    clear BD
                    have BD := BD'
                    clear BD' hb y0 y1 y2 y3 y4 y5 y6
                    clear q0
                    go_wp2_with fail
                    go_meet
                    exact ⟨rfl, BD⟩
                | some us =>
                  cases M with
                  | none =>
                    obtain rfl : E = -1 := by rw [HE.out]; rfl
                    have MS := doO_made HS.out.symm
                    have ms : (mdO (some us)).mayB = true := MS.1
                    have os : (mdO (some us)).Ok := MS.2.1
                    have ks : (Rs.k == 3) = false := kind_wh1 Vs.tv MS.2.2 Va.tv Vb.tv HW.out
                    clear MS
                    obtain rfl : G = 1 := by rw [HG.out]; rfl
                    have s0 := Vs.bx.at.c0
                    clear s0
                    have y0 := Vs.bx.at.c0; have y1 := Vs.bx.at.c1; have y2 := Vs.bx.at.c2; have y3 := Vs.bx.at.c3; have y4 := Vs.bx.at.c4; have y5 := Vs.bx.at.c5; have y6 := Vs.bx.at.c6
                    go_wp2_with fail
                    refine (mayTerm_any c2 Rs (mdO (some us)) Vs.tv os).mono ?_
                    rw [ms]
                    rintro e d1 ⟨rfl, hb⟩
                    have Vs' := Vs.below hb
                    clear Vs
                    have Vs := Vs'
                    clear Vs'
                    have Vm' := Vm.below hb
                    clear Vm
                    have Vm := Vm'
                    clear Vm'
                    have Vq' := Vq.below hb
                    clear Vq
                    have Vq := Vq'
                    clear Vq'
                    have BD' := BD.trans (hb.mono BD.size)
                    clear BD
                    have BD := BD'
                    clear BD' hb y0 y1 y2 y3 y4 y5 y6
                    have s0 := Vs.bx.at.c0
                    have q0 := Vq.bx.at.c0
                    have y0 := Vq.bx.at.c0; have y1 := Vq.bx.at.c1; have y2 := Vq.bx.at.c2; have y3 := Vq.bx.at.c3; have y4 := Vq.bx.at.c4; have y5 := Vq.bx.at.c5; have y6 := Vq.bx.at.c6
                    go_wp2_with fail
                    refine (mayTerm_any d1 Rq (fltT qv) Vq.tv (flt_ok qv)).mono ?_
                    rw [flt_may CQ.out]
                    rintro e d2 ⟨rfl, hb⟩
                    have Vs' := Vs.below hb
                    clear Vs
                    have Vs := Vs'
                    clear Vs'
                    have Vm' := Vm.below hb
                    clear Vm
                    have Vm := Vm'
                    clear Vm'
                    have Vq' := Vq.below hb
                    clear Vq
                    have Vq := Vq'
                    clear Vq'
                    have BD' := BD.trans (hb.mono BD.size)
                    clear BD
                    have BD := BD'
                    clear BD' hb y0 y1 y2 y3 y4 y5 y6
                    clear q0
                    go_wp2_with fail
                    go_meet
                    exact ⟨rfl, BD⟩
                  | some um =>
                    obtain rfl : E = -1 := by rw [HE.out]; rfl
                    have MS := doO_made HS.out.symm
                    have ms : (mdO (some us)).mayB = true := MS.1
                    have os : (mdO (some us)).Ok := MS.2.1
                    have ks : (Rs.k == 3) = false := kind_wh1 Vs.tv MS.2.2 Va.tv Vb.tv HW.out
                    clear MS
                    obtain rfl : G = -1 := by rw [HG.out]; rfl
                    have MM := doO_made HM.out.symm
                    have mm : (mdO (some um)).mayB = true := MM.1
                    have om : (mdO (some um)).Ok := MM.2.1
                    clear MM
                    have s0 := Vs.bx.at.c0
                    clear s0
                    have y0 := Vs.bx.at.c0; have y1 := Vs.bx.at.c1; have y2 := Vs.bx.at.c2; have y3 := Vs.bx.at.c3; have y4 := Vs.bx.at.c4; have y5 := Vs.bx.at.c5; have y6 := Vs.bx.at.c6
                    go_wp2_with fail
                    refine (mayTerm_any c2 Rs (mdO (some us)) Vs.tv os).mono ?_
                    rw [ms]
                    rintro e d1 ⟨rfl, hb⟩
                    have Vs' := Vs.below hb
                    clear Vs
                    have Vs := Vs'
                    clear Vs'
                    have Vm' := Vm.below hb
                    clear Vm
                    have Vm := Vm'
                    clear Vm'
                    have Vq' := Vq.below hb
                    clear Vq
                    have Vq := Vq'
                    clear Vq'
                    have BD' := BD.trans (hb.mono BD.size)
                    clear BD
                    have BD := BD'
                    clear BD' hb y0 y1 y2 y3 y4 y5 y6
                    have s0 := Vs.bx.at.c0
                    have y0 := Vm.bx.at.c0; have y1 := Vm.bx.at.c1; have y2 := Vm.bx.at.c2; have y3 := Vm.bx.at.c3; have y4 := Vm.bx.at.c4; have y5 := Vm.bx.at.c5; have y6 := Vm.bx.at.c6
                    go_wp2_with fail
                    refine (mayTerm_any d1 Rm (mdO (some um)) Vm.tv om).mono ?_
                    rw [mm]
                    rintro e d2 ⟨rfl, hb⟩
                    have Vs' := Vs.below hb
                    clear Vs
                    have Vs := Vs'
                    clear Vs'
                    have Vm' := Vm.below hb
                    clear Vm
                    have Vm := Vm'
                    clear Vm'
                    have Vq' := Vq.below hb
                    clear Vq
                    have Vq := Vq'
                    clear Vq'
                    have BD' := BD.trans (hb.mono BD.size)
                    clear BD
                    have BD := BD'
                    clear BD' hb y0 y1 y2 y3 y4 y5 y6
                    clear s0
                    have q0 := Vq.bx.at.c0
                    have y0 := Vq.bx.at.c0; have y1 := Vq.bx.at.c1; have y2 := Vq.bx.at.c2; have y3 := Vq.bx.at.c3; have y4 := Vq.bx.at.c4; have y5 := Vq.bx.at.c5; have y6 := Vq.bx.at.c6
                    go_wp2_with fail
                    refine (mayTerm_any d2 Rq (fltT qv) Vq.tv (flt_ok qv)).mono ?_
                    rw [flt_may CQ.out]
                    rintro e d3 ⟨rfl, hb⟩
                    have Vs' := Vs.below hb
                    clear Vs
                    have Vs := Vs'
                    clear Vs'
                    have Vm' := Vm.below hb
                    clear Vm
                    have Vm := Vm'
                    clear Vm'
                    have Vq' := Vq.below hb
                    clear Vq
                    have Vq := Vq'
                    clear Vq'
                    have BD' := BD.trans (hb.mono BD.size)
                    clear BD
                    have BD := BD'
                    clear BD' hb y0 y1 y2 y3 y4 y5 y6
                    clear q0
                    go_wp2_with fail
                    go_meet
                    exact ⟨rfl, BD⟩
            obtain ⟨rfl, hb⟩ := hcut
            have Va' := Va.below hb
            clear Va
            have Va := Va'
            clear Va'
            have Vb' := Vb.below hb
            clear Vb
            have Vb := Vb'
            clear Vb'
            have Vs' := Vs.below hb
            clear Vs
            have Vs := Vs'
            clear Vs'
            have Vm' := Vm.below hb
            clear Vm
            have Vm := Vm'
            clear Vm'
            have Vq' := Vq.below hb
            clear Vq
            have Vq := Vq'
            clear Vq'
            have bb' := bb.trans (hb.mono bb.size)
            clear bb
            have bb := bb'
            clear bb'
            clear hb hq3 Vs Vm Vq
            generalize wc = C3 at *
            clear HS HM HQ HE HG HI CQ
            obtain ⟨D, hD⟩ : ∃ D, D = doO 6 t t' := ⟨_, rfl⟩
            have HD := Lib.hid hD
            clear hD
            obtain ⟨J, hJ⟩ : ∃ J, J = rsO D := ⟨_, rfl⟩
            have HJ := Lib.hid hJ
            clear hJ
            obtain ⟨Yo, hY⟩ : ∃ Y, Y = doO 7 t' (intT (-1)) := ⟨_, rfl⟩
            have HY := Lib.hid hY
            clear hY
            obtain ⟨K, hK⟩ : ∃ K, K = rsO Yo := ⟨_, rfl⟩
            have HKK := Lib.hid hK
            clear hK
            obtain ⟨X, hX⟩ : ∃ X, X = doO 5 t (mdO Yo) := ⟨_, rfl⟩
            have HX := Lib.hid hX
            clear hX
            obtain ⟨O, hO⟩ : ∃ O, O = rsO X := ⟨_, rfl⟩
            have HO := Lib.hid hO
            clear hO
            have om := int_ok (z := -1) (top64 (by omega) (by omega))
            have oy : (mdO Yo).Ok := by rw [HY.out]; exact mdO_ok _ _ _
            go_upto_region 16 with fail
            go_cut [17, 18] from 176 to 181 (fun p i wx => ∃ (g : Nat) (R : TR), p = .pointer (some ⟨g, 0, none⟩) ∧ i = .int .i64 J ∧ Vt wx g R (mdO D) ∧ Below C3.heap.size C3 wx)
            case first =>
              have y0 := Va.bx.at.c0; have y1 := Va.bx.at.c1; have y2 := Va.bx.at.c2; have y3 := Va.bx.at.c3; have y4 := Va.bx.at.c4; have y5 := Va.bx.at.c5; have y6 := Va.bx.at.c6; have x0 := Vb.bx.at.c0; have x1 := Vb.bx.at.c1; have x2 := Vb.bx.at.c2; have x3 := Vb.bx.at.c3; have x4 := Vb.bx.at.c4; have x5 := Vb.bx.at.c5; have x6 := Vb.bx.at.c6
              go_wp2_with fail
              refine (do_any C3 6 r r' t t' Va.tv Vb.tv ok1 ok2).mono ?_
              rw [← HD.out]
              rintro e v6 ⟨Rz, he, T, -, -, hb⟩
              rw [← HJ.out] at he
              subst he
              clear y0 y1 y2 y3 y4 y5 y6 x0 x1 x2 x3 x4 x5 x6
              go_wp2_with fail
              go_meet
              exact ⟨v6.heap.size, Rz, rfl, rfl, Vt.new T, hb.alloc hb.size _⟩
            obtain ⟨g6, Rz, rfl, rfl, Vz0, hb⟩ := hcut
            have Va' := Va.below hb
            clear Va
            have Va := Va'
            clear Va'
            have Vb' := Vb.below hb
            clear Vb
            have Vb := Vb'
            clear Vb'
            have bb' := bb.trans (hb.mono bb.size)
            clear bb
            have bb := bb'
            clear bb'
            clear hb
            have Vz := Vz0
            clear Vz0
            generalize wc = Y6 at *
            go_upto_region 17 with fail
            go_cut [19, 20] from 182 to 187 (fun p i wx => ∃ (g : Nat) (R : TR), p = .pointer (some ⟨g, 0, none⟩) ∧ i = .int .i64 K ∧ Vt wx g R (mdO Yo) ∧ Below Y6.heap.size Y6 wx)
            case first =>
              have J0 := Vb.below (Below.refl Y6.heap.size Y6).drew
              have JA := (Vb.below ((Below.refl Y6.heap.size Y6).alloc (Nat.le_refl _) (.cells #[.int .i64 0, .int .i64 0, .bool false, .slice none 0 0, .int .u64 0, .string ⟨#[]⟩, .slice none 0 0] 28))).below (Below.refl _ _).drew
              have hl0 : (w.heap.size + 1) < Y6.heap.size := J0.bx.lt
              have ne0 : (w.heap.size + 1) ≠ Y6.heap.size := Nat.ne_of_lt hl0
              have ne0' : Y6.heap.size ≠ (w.heap.size + 1) := Ne.symm ne0
              go_region_held3 (fun w' => w'.cell? ⟨w.heap.size + 1, 0, none⟩ = some (.int .i64 r'.k) ∧ w'.cell? ⟨w.heap.size + 1, 1, none⟩ = some (.int .i64 r'.n) ∧ w'.cell? ⟨w.heap.size + 1, 2, none⟩ = some (.bool r'.g) ∧ w'.cell? ⟨w.heap.size + 1, 3, none⟩ = some (.slice r'.A r'.ln r'.lc) ∧ w'.cell? ⟨w.heap.size + 1, 4, none⟩ = some (.int .u64 r'.u) ∧ w'.cell? ⟨w.heap.size + 1, 5, none⟩ = some (.string r'.s) ∧ w'.cell? ⟨w.heap.size + 1, 6, none⟩ = some (.slice r'.B r'.m r'.d))
                (first | with_reducible exact ⟨J0.bx.at.c0, J0.bx.at.c1, J0.bx.at.c2, J0.bx.at.c3, J0.bx.at.c4, J0.bx.at.c5, J0.bx.at.c6⟩ | with_reducible exact ⟨J1.bx.at.c0, J1.bx.at.c1, J1.bx.at.c2, J1.bx.at.c3, J1.bx.at.c4, J1.bx.at.c5, J1.bx.at.c6⟩ | with_reducible exact ⟨J2.bx.at.c0, J2.bx.at.c1, J2.bx.at.c2, J2.bx.at.c3, J2.bx.at.c4, J2.bx.at.c5, J2.bx.at.c6⟩ | with_reducible exact ⟨JA.bx.at.c0, JA.bx.at.c1, JA.bx.at.c2, JA.bx.at.c3, JA.bx.at.c4, JA.bx.at.c5, JA.bx.at.c6⟩ | with_reducible exact ⟨(J1.below ((Below.refl _ _).alloc (Nat.le_refl _) _)).bx.at.c0, (J1.below ((Below.refl _ _).alloc (Nat.le_refl _) _)).bx.at.c1, (J1.below ((Below.refl _ _).alloc (Nat.le_refl _) _)).bx.at.c2, (J1.below ((Below.refl _ _).alloc (Nat.le_refl _) _)).bx.at.c3, (J1.below ((Below.refl _ _).alloc (Nat.le_refl _) _)).bx.at.c4, (J1.below ((Below.refl _ _).alloc (Nat.le_refl _) _)).bx.at.c5, (J1.below ((Below.refl _ _).alloc (Nat.le_refl _) _)).bx.at.c6⟩ | with_reducible exact ⟨(J2.below ((Below.refl _ _).alloc (Nat.le_refl _) _)).bx.at.c0, (J2.below ((Below.refl _ _).alloc (Nat.le_refl _) _)).bx.at.c1, (J2.below ((Below.refl _ _).alloc (Nat.le_refl _) _)).bx.at.c2, (J2.below ((Below.refl _ _).alloc (Nat.le_refl _) _)).bx.at.c3, (J2.below ((Below.refl _ _).alloc (Nat.le_refl _) _)).bx.at.c4, (J2.below ((Below.refl _ _).alloc (Nat.le_refl _) _)).bx.at.c5, (J2.below ((Below.refl _ _).alloc (Nat.le_refl _) _)).bx.at.c6⟩ | with_reducible exact ⟨(J2.bx.put' ne1' Ry).at.c0, (J2.bx.put' ne1' Ry).at.c1, (J2.bx.put' ne1' Ry).at.c2, (J2.bx.put' ne1' Ry).at.c3, (J2.bx.put' ne1' Ry).at.c4, (J2.bx.put' ne1' Ry).at.c5, (J2.bx.put' ne1' Ry).at.c6⟩ | with_reducible exact ⟨(J2.bx.put' ne0' Ry).at.c0, (J2.bx.put' ne0' Ry).at.c1, (J2.bx.put' ne0' Ry).at.c2, (J2.bx.put' ne0' Ry).at.c3, (J2.bx.put' ne0' Ry).at.c4, (J2.bx.put' ne0' Ry).at.c5, (J2.bx.put' ne0' Ry).at.c6⟩)
                (first
                | (go_at_call 10; have Q := int_any Y6.drew (-1) (by omega) (by omega); (with_reducible refine Q.mono ?_); clear Q; rintro e u1 ⟨R7, rfl, T7, hb⟩; have J1 := J0.below hb; have BB := Lib.hid (Below.trans (Below.refl Y6.heap.size Y6).drew (hb.mono (Nat.le_refl _))); clear hb J0 JA; have hl1 := J1.bx.lt; have ne1 := Nat.ne_of_lt hl1; have ne1' := Ne.symm ne1; have hz1 := BB.out.size)
                | (go_at_call 10; have Q := int_any ((Y6.alloc (.cells #[.int .i64 0, .int .i64 0, .bool false, .slice none 0 0, .int .u64 0, .string ⟨#[]⟩, .slice none 0 0] 28)).drew) (-1) (by omega) (by omega); (with_reducible refine Q.mono ?_); clear Q; rintro e u1 ⟨R7, rfl, T7, hb⟩; have J1 := JA.below hb; have BB := Lib.hid (Below.trans (((Below.refl Y6.heap.size Y6).alloc (Nat.le_refl _) (.cells #[.int .i64 0, .int .i64 0, .bool false, .slice none 0 0, .int .u64 0, .string ⟨#[]⟩, .slice none 0 0] 28)).drew) (hb.mono (by simp))); have K1 : Box7 u1 Y6.heap.size zeroR := ((Box7.new Y6 zeroR).below (Below.refl _ _).drew).below hb; have szz : Y6.heap.size + 1 ≤ u1.heap.size := (by have := hb.size; simpa using this); clear hb J0 JA; have hl1 := J1.bx.lt; have ne1 := Nat.ne_of_lt hl1; have ne1' := Ne.symm ne1; have hz1 := BB.out.size)
                | (go_at_call 8; have Q := do_any u1 7 r' R7 t' (intT (-1)) J1.tv T7 ok2 om; rw [← HY.out] at Q; (with_reducible refine Q.mono ?_); clear Q; rintro e v7 ⟨Ry, he, T, OW, hm0, hb⟩; rw [← HKK.out] at he; subst he; have OO := Lib.hid OW; have MM := Lib.hid hm0; clear OW hm0; have J2 := J1.below hb; have B2 := Below.trans BB.out (hb.mono hz1); (first | (have K2 := K1.below hb; have f0 := K2.frozen 0; have f1 := K2.frozen 1; have f2 := K2.frozen 2; have f3 := K2.frozen 3; have f4 := K2.frozen 4; have f5 := K2.frozen 5; have f6 := K2.frozen 6; have q0 := K2.at.c0; have q1 := K2.at.c1; have q2 := K2.at.c2; have q3 := K2.at.c3; have q4 := K2.at.c4; have q5 := K2.at.c5; have q6 := K2.at.c6) | skip); clear hb J1)
                | (go_at_call 8; have Q := do_any (u1.alloc (.cells #[.int .i64 0, .int .i64 0, .bool false, .slice none 0 0, .int .u64 0, .string ⟨#[]⟩, .slice none 0 0] 28)) 7 r' R7 t' (intT (-1)) (J1.tv.bel ((Below.refl u1.heap.size u1).alloc (Nat.le_refl _) (.cells #[.int .i64 0, .int .i64 0, .bool false, .slice none 0 0, .int .u64 0, .string ⟨#[]⟩, .slice none 0 0] 28))) (T7.bel ((Below.refl u1.heap.size u1).alloc (Nat.le_refl _) (.cells #[.int .i64 0, .int .i64 0, .bool false, .slice none 0 0, .int .u64 0, .string ⟨#[]⟩, .slice none 0 0] 28))) ok2 om; rw [← HY.out] at Q; (with_reducible refine Q.mono ?_); clear Q; rintro e v7 ⟨Ry, he, T, OW, hm0, hb⟩; rw [← HKK.out] at he; subst he; have OO := Lib.hid OW; have MM := Lib.hid hm0; clear OW hm0; have J2 := (J1.below ((Below.refl u1.heap.size u1).alloc (Nat.le_refl _) (.cells #[.int .i64 0, .int .i64 0, .bool false, .slice none 0 0, .int .u64 0, .string ⟨#[]⟩, .slice none 0 0] 28))).below hb; have B2 := Below.trans (BB.out.alloc hz1 (.cells #[.int .i64 0, .int .i64 0, .bool false, .slice none 0 0, .int .u64 0, .string ⟨#[]⟩, .slice none 0 0] 28)) (hb.mono (by simp; omega)); have K2 : Box7 v7 u1.heap.size zeroR := (Box7.new u1 zeroR).below hb; have f0 := K2.frozen 0; have f1 := K2.frozen 1; have f2 := K2.frozen 2; have f3 := K2.frozen 3; have f4 := K2.frozen 4; have f5 := K2.frozen 5; have f6 := K2.frozen 6; have q0 := K2.at.c0; have q1 := K2.at.c1; have q2 := K2.at.c2; have q3 := K2.at.c3; have q4 := K2.at.c4; have q5 := K2.at.c5; have q6 := K2.at.c6; clear hb J1))
              all_goals
                go_wp2_with fail
                go_meet
                first
                  | (with_reducible exact ⟨v7.heap.size, Ry, rfl, rfl, Vt.new T, B2.alloc B2.size _⟩)
                  | (with_reducible exact ⟨u1.heap.size, Ry, rfl, rfl, ⟨K2.put Ry, made_keep T OO.out MM.out (by simp) Ry⟩, B2.put7 (by omega) Ry⟩)
                  | (with_reducible exact ⟨Y6.heap.size, Ry, rfl, rfl, ⟨K2.put Ry, made_keep T OO.out MM.out (by omega) Ry⟩, B2.put7 (Nat.le_refl _) Ry⟩)
            obtain ⟨g7, Ry, rfl, rfl, Vy0, hb⟩ := hcut
            have Va' := Va.below hb
            clear Va
            have Va := Va'
            clear Va'
            have Vb' := Vb.below hb
            clear Vb
            have Vb := Vb'
            clear Vb'
            have Vz' := Vz.below hb
            clear Vz
            have Vz := Vz'
            clear Vz'
            have bb' := bb.trans (hb.mono bb.size)
            clear bb
            have bb := bb'
            clear bb'
            clear hb
            have Vy := Vy0
            clear Vy0
            generalize wc = Y7 at *
            go_upto_region 18 with fail
            go_cut [21, 22] from 188 to 193 (fun p i wx => ∃ (g : Nat) (R : TR), p = .pointer (some ⟨g, 0, none⟩) ∧ i = .int .i64 O ∧ Vt wx g R (mdO X) ∧ Below Y7.heap.size Y7 wx)
            case first =>
              have y0 := Va.bx.at.c0; have y1 := Va.bx.at.c1; have y2 := Va.bx.at.c2; have y3 := Va.bx.at.c3; have y4 := Va.bx.at.c4; have y5 := Va.bx.at.c5; have y6 := Va.bx.at.c6; have x0 := Vy.bx.at.c0; have x1 := Vy.bx.at.c1; have x2 := Vy.bx.at.c2; have x3 := Vy.bx.at.c3; have x4 := Vy.bx.at.c4; have x5 := Vy.bx.at.c5; have x6 := Vy.bx.at.c6
              go_wp2_with fail
              refine (do_any Y7 5 r Ry t (mdO Yo) Va.tv Vy.tv ok1 oy).mono ?_
              rw [← HX.out]
              rintro e v8 ⟨Rx, he, T, -, -, hb⟩
              rw [← HO.out] at he
              subst he
              clear y0 y1 y2 y3 y4 y5 y6 x0 x1 x2 x3 x4 x5 x6
              go_wp2_with fail
              go_meet
              exact ⟨v8.heap.size, Rx, rfl, rfl, Vt.new T, hb.alloc hb.size _⟩
            obtain ⟨g8, Rx, rfl, rfl, Vx0, hb⟩ := hcut
            have Va' := Va.below hb
            clear Va
            have Va := Va'
            clear Va'
            have Vb' := Vb.below hb
            clear Vb
            have Vb := Vb'
            clear Vb'
            have Vz' := Vz.below hb
            clear Vz
            have Vz := Vz'
            clear Vz'
            have Vy' := Vy.below hb
            clear Vy
            have Vy := Vy'
            clear Vy'
            have bb' := bb.trans (hb.mono bb.size)
            clear bb
            have bb := bb'
            clear bb'
            clear hb
            have Vx := Vx0
            clear Vx0
            generalize wc = Y8 at *
            go_upto_region 19 with fail
            cases wh with
            | false =>
              go_wp2_with fail
              refine (awake6 Y8).mono ?_
              rintro e z1 ⟨rfl, hz1⟩
              go_wp2
              go_ret
              exact ⟨rfl, bb.trans (hz1.mono bb.size)⟩
            | true =>
              obtain ⟨⟨yv, hYo⟩, hXD⟩ := turn_wh Va.tv Vb.tv GA.out GB.out HK.out HW.out
              rw [← HY.out] at hYo
              obtain rfl : K = -1 := by rw [HKK.out, hYo]; rfl
              have eX : X = D := by rw [HX.out, HD.out]; exact hXD Yo HY.out
              have eO : O = J := by rw [HO.out, HJ.out, eX]
              subst eO
              have EX := Lib.hid eX
              clear eX hYo hXD
              have y0 := Vx.bx.at.c0; have y1 := Vx.bx.at.c1; have y2 := Vx.bx.at.c2; have y3 := Vx.bx.at.c3; have y4 := Vx.bx.at.c4; have y5 := Vx.bx.at.c5; have y6 := Vx.bx.at.c6; have x0 := Vz.bx.at.c0; have x1 := Vz.bx.at.c1; have x2 := Vz.bx.at.c2; have x3 := Vz.bx.at.c3; have x4 := Vz.bx.at.c4; have x5 := Vz.bx.at.c5; have x6 := Vz.bx.at.c6
              go_wp2_with fail
              refine (sameTerm_eq (mdO X) Y8 Rx Rz Vx.tv (by rw [EX.out]; exact Vz.tv)).mono ?_
              rintro e c3 ⟨rfl, hb⟩
              have Va' := Va.below hb
              clear Va
              have Va := Va'
              clear Va'
              have Vb' := Vb.below hb
              clear Vb
              have Vb := Vb'
              clear Vb'
              have Vz' := Vz.below hb
              clear Vz
              have Vz := Vz'
              clear Vz'
              have Vy' := Vy.below hb
              clear Vy
              have Vy := Vy'
              clear Vy'
              have Vx' := Vx.below hb
              clear Vx
              have Vx := Vx'
              clear Vx'
              have bb' := bb.trans (hb.mono bb.size)
              clear bb
              have bb := bb'
              clear bb'
              clear hb y0 y1 y2 y3 y4 y5 y6 x0 x1 x2 x3 x4 x5 x6
              go_wp2_with fail
              refine (awake6 c3).mono ?_
              rintro e z1 ⟨rfl, hz1⟩
              go_wp2
              go_ret
              exact ⟨rfl, bb.trans (hz1.mono bb.size)⟩
end Go.Proofs.Ytompimbeaeinbaa
