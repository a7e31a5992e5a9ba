/-
  THE WALK OF OrderTotal.
-/
import Derived.Test.YtbhmkdbdhojmcaaJ11
namespace Go.Proofs.Ytbhmkdbdhojmcaa
open Go.RowKit
open Od

/-- Three variables that hold terms. -/
structure Th (w : World) (r : TR) (t : Tm) (r' : TR) (t' : Tm) (s : TR) (u : Tm) (W : World) : Prop where
  b1 : Box7 W w.heap.size r
  b2 : Box7 W (w.heap.size + 1) r'
  b3 : Box7 W (w.heap.size + 1 + 1) s
  t1 : TV W r t
  t2 : TV W r' t'
  t3 : TV W s u
  be : Below w.heap.size w W
section
variable {w : World} {r : TR} {t : Tm} {r' : TR} {t' : Tm} {s : TR} {u : Tm} {W W' : World}
set_option maxRecDepth 100000 in
theorem Th.below (h : Th w r t r' t' s u W) (hb : Below W.heap.size W W') : Th w r t r' t' s u W' :=
  ⟨h.b1.below hb, h.b2.below hb, h.b3.below hb, h.t1.bel hb, h.t2.bel hb, h.t3.bel hb, h.be.trans (hb.mono h.be.size)⟩
set_option maxRecDepth 100000 in
theorem Th.drew (h : Th w r t r' t' s u W) : Th w r t r' t' s u W.drew := h.below (Below.refl _ _).drew
set_option maxRecDepth 100000 in
theorem Th.new (h : TV w r t) (h' : TV w r' t') (k : TV w s u) : Th w r t r' t' s u (((w.alloc (.cells #[.int .i64 r.k, .int .i64 r.n, .bool r.g, .slice r.A r.ln r.lc, .int .u64 r.u, .string r.s, .slice r.B r.m r.d] 28)).alloc (.cells #[.int .i64 r'.k, .int .i64 r'.n, .bool r'.g, .slice r'.A r'.ln r'.lc, .int .u64 r'.u, .string r'.s, .slice r'.B r'.m r'.d] 28)).alloc (.cells #[.int .i64 s.k, .int .i64 s.n, .bool s.g, .slice s.A s.ln s.lc, .int .u64 s.u, .string s.s, .slice s.B s.m s.d] 28)) := by
  have I := SmI.new h h'
  have b1 := (Below.refl _ ((w.alloc (.cells #[.int .i64 r.k, .int .i64 r.n, .bool r.g, .slice r.A r.ln r.lc, .int .u64 r.u, .string r.s, .slice r.B r.m r.d] 28)).alloc (.cells #[.int .i64 r'.k, .int .i64 r'.n, .bool r'.g, .slice r'.A r'.ln r'.lc, .int .u64 r'.u, .string r'.s, .slice r'.B r'.m r'.d] 28))).alloc (Nat.le_refl _) (.cells #[.int .i64 s.k, .int .i64 s.n, .bool s.g, .slice s.A s.ln s.lc, .int .u64 s.u, .string s.s, .slice s.B s.m s.d] 28)
  have J := I.below b1
  have n := Box7.new ((w.alloc (.cells #[.int .i64 r.k, .int .i64 r.n, .bool r.g, .slice r.A r.ln r.lc, .int .u64 r.u, .string r.s, .slice r.B r.m r.d] 28)).alloc (.cells #[.int .i64 r'.k, .int .i64 r'.n, .bool r'.g, .slice r'.A r'.ln r'.lc, .int .u64 r'.u, .string r'.s, .slice r'.B r'.m r'.d] 28)) s
  rw [World.size_alloc, World.size_alloc] at n
  exact ⟨J.bx, J.ix, n, J.tv, J.tw, k.bel J.be, J.be⟩
end
set_option maxRecDepth 100000 in
/-- A row of four terms, newly made. -/
theorem TVs.four {w : World} {r r' s s' : TR} {t t' u u' : Tm} (h : TV w r t) (h' : TV w r' t') (k : TV w s u) (k' : TV w s' u') :
    TVs (w.alloc (.cells #[.int .i64 r.k, .int .i64 r.n, .bool r.g, .slice r.A r.ln r.lc, .int .u64 r.u, .string r.s, .slice r.B r.m r.d, .int .i64 r'.k, .int .i64 r'.n, .bool r'.g, .slice r'.A r'.ln r'.lc, .int .u64 r'.u, .string r'.s, .slice r'.B r'.m r'.d, .int .i64 s.k, .int .i64 s.n, .bool s.g, .slice s.A s.ln s.lc, .int .u64 s.u, .string s.s, .slice s.B s.m s.d, .int .i64 s'.k, .int .i64 s'.n, .bool s'.g, .slice s'.A s'.ln s'.lc, .int .u64 s'.u, .string s'.s, .slice s'.B s'.m s'.d] 28)) (some ⟨w.heap.size, 0, none⟩) 4 4 [t, t', u, u'] := by
  refine ⟨rfl, Nat.le_refl _, by decide, fun i => if i = 0 then r else if i = 1 then r' else if i = 2 then s else s', fun _ => ⟨w.heap.size, 0, rfl, by simp, fun i hi => ?_⟩, fun i x e => ?_⟩
  · have : i = 0 ∨ i = 1 ∨ i = 2 ∨ i = 3 := by omega
    rcases this with rfl | rfl | rfl | rfl
    all_goals
      refine At7.of fun j hj => ?_
      rw [add_none, World.cell?_alloc_at _ _ _ _ rfl]
      have : j = 0 ∨ j = 1 ∨ j = 2 ∨ j = 3 ∨ j = 4 ∨ j = 5 ∨ j = 6 := by omega
      rcases this with rfl | rfl | rfl | rfl | rfl | rfl | rfl <;> rfl
  · have hb := (Below.refl w.heap.size w).alloc (Nat.le_refl _) (.cells #[.int .i64 r.k, .int .i64 r.n, .bool r.g, .slice r.A r.ln r.lc, .int .u64 r.u, .string r.s, .slice r.B r.m r.d, .int .i64 r'.k, .int .i64 r'.n, .bool r'.g, .slice r'.A r'.ln r'.lc, .int .u64 r'.u, .string r'.s, .slice r'.B r'.m r'.d, .int .i64 s.k, .int .i64 s.n, .bool s.g, .slice s.A s.ln s.lc, .int .u64 s.u, .string s.s, .slice s.B s.m s.d, .int .i64 s'.k, .int .i64 s'.n, .bool s'.g, .slice s'.A s'.ln s'.lc, .int .u64 s'.u, .string s'.s, .slice s'.B s'.m s'.d] 28)
    match i, e with
    | 0, e => simp at e; rw [← e]; exact h.bel hb
    | 1, e => simp at e; rw [← e]; exact h'.bel hb
    | 2, e => simp at e; rw [← e]; exact k.bel hb
    | 3, e => simp at e; rw [← e]; exact k'.bel hb
    | i + 4, e => simp at e

set_option maxRecDepth 100000 in
set_option maxHeartbeats 8000000 in
theorem orderTotal_walk (w : World) (r : TR) (t : Tm) (h : TV w r t) (r' : TR) (t' : Tm) (h' : TV w r' t') (s : TR) (u : Tm) (k : TV w s u) :
    Calls Try.prog 4 #[.agg #[.int .i64 r.k, .int .i64 r.n, .bool r.g, .slice r.A r.ln r.lc, .int .u64 r.u, .string r.s, .slice r.B r.m r.d], .agg #[.int .i64 r'.k, .int .i64 r'.n, .bool r'.g, .slice r'.A r'.ln r'.lc, .int .u64 r'.u, .string r'.s, .slice r'.B r'.m r'.d], .agg #[.int .i64 s.k, .int .i64 s.n, .bool s.g, .slice s.A s.ln s.lc, .int .u64 s.u, .string s.s, .slice s.B s.m s.d]] w fun e w' => e = .returned (.bool true) ∧ Below w.heap.size w w' := by
  have I := Th.new h h' k
  clear h h' k
  have y0 := I.b1.at.c0; have y1 := I.b1.at.c1; have y2 := I.b1.at.c2; have y3 := I.b1.at.c3; have y4 := I.b1.at.c4; have y5 := I.b1.at.c5; have y6 := I.b1.at.c6
  go_enter Try.func4, Try.ntmps4
  go_wp2_with fail
  generalize ((w.alloc (.cells #[.int .i64 r.k, .int .i64 r.n, .bool r.g, .slice r.A r.ln r.lc, .int .u64 r.u, .string r.s, .slice r.B r.m r.d] 28)).alloc (.cells #[.int .i64 r'.k, .int .i64 r'.n, .bool r'.g, .slice r'.A r'.ln r'.lc, .int .u64 r'.u, .string r'.s, .slice r'.B r'.m r'.d] 28)).alloc (.cells #[.int .i64 s.k, .int .i64 s.n, .bool s.g, .slice s.A s.ln s.lc, .int .u64 s.u, .string s.s, .slice s.B s.m s.d] 28) = W at *
  refine (greatT_any W r t I.t1 400 (by omega) (by omega)).mono ?_
  cases g1 : greatB [t] 400 with
  | true =>
    rintro e w1 ⟨rfl, hb1⟩
    have I1 := I.below hb1
    clear I y0 y1 y2 y3 y4 y5 y6
    go_wp2_with fail
    refine (awake5 w1).mono ?_
    rintro e z1 ⟨rfl, hz1⟩
    go_wp2
    go_ret
    exact ⟨rfl, I1.be.trans (hz1.mono I1.be.size)⟩
  | false =>
    rintro e w1 ⟨rfl, hb1⟩
    have I1 := I.below hb1
    clear I y0 y1 y2 y3 y4 y5 y6
    have ok1 := (greatB_no g1).2 t (by simp)
    have y0 := I1.b2.at.c0; have y1 := I1.b2.at.c1; have y2 := I1.b2.at.c2; have y3 := I1.b2.at.c3; have y4 := I1.b2.at.c4; have y5 := I1.b2.at.c5; have y6 := I1.b2.at.c6
    go_wp2_with fail
    refine (greatT_any w1 r' t' I1.t2 400 (by omega) (by omega)).mono ?_
    cases g2 : greatB [t'] 400 with
    | true =>
      rintro e w2 ⟨rfl, hb2⟩
      have I2 := I1.below hb2
      clear I1 y0 y1 y2 y3 y4 y5 y6
      go_wp2_with fail
      refine (awake5 w2).mono ?_
      rintro e z1 ⟨rfl, hz1⟩
      go_wp2
      go_ret
      exact ⟨rfl, I2.be.trans (hz1.mono I2.be.size)⟩
    | false =>
      rintro e w2 ⟨rfl, hb2⟩
      have I2 := I1.below hb2
      clear I1 y0 y1 y2 y3 y4 y5 y6
      have ok2 := (greatB_no g2).2 t' (by simp)
      have y0 := I2.b3.at.c0; have y1 := I2.b3.at.c1; have y2 := I2.b3.at.c2; have y3 := I2.b3.at.c3; have y4 := I2.b3.at.c4; have y5 := I2.b3.at.c5; have y6 := I2.b3.at.c6
      go_wp2_with fail
      refine (greatT_any w2 s u I2.t3 400 (by omega) (by omega)).mono ?_
      cases g3 : greatB [u] 400 with
      | true =>
        rintro e w3 ⟨rfl, hb3⟩
        have I3 := I2.below hb3
        clear I2 y0 y1 y2 y3 y4 y5 y6
        go_wp2_with fail
        refine (awake5 w3).mono ?_
        rintro e z1 ⟨rfl, hz1⟩
        go_wp2
        go_ret
        exact ⟨rfl, I3.be.trans (hz1.mono I3.be.size)⟩
      | false =>
        rintro e w3 ⟨rfl, hb3⟩
        have I3 := I2.below hb3
        clear I2 y0 y1 y2 y3 y4 y5 y6
        have ok3 := (greatB_no g3).2 u (by simp)
        have y0 := I3.b1.at.c0; have y1 := I3.b1.at.c1; have y2 := I3.b1.at.c2; have y3 := I3.b1.at.c3; have y4 := I3.b1.at.c4; have y5 := I3.b1.at.c5; have y6 := I3.b1.at.c6
        go_wp2_with fail
        refine (mayTerm_any w3 r t I3.t1 ok1).mono ?_
        cases g4 : Tm.mayB t with
        | false =>
          rintro e w4 ⟨rfl, hb4⟩
          have I4 := I3.below hb4
          clear I3 y0 y1 y2 y3 y4 y5 y6
          go_wp2_with fail
          refine (awake5 w4).mono ?_
          rintro e z1 ⟨rfl, hz1⟩
          go_wp2
          go_ret
          exact ⟨rfl, I4.be.trans (hz1.mono I4.be.size)⟩
        | true =>
          rintro e w4 ⟨rfl, hb4⟩
          have I4 := I3.below hb4
          clear I3 y0 y1 y2 y3 y4 y5 y6
          have y0 := I4.b2.at.c0; have y1 := I4.b2.at.c1; have y2 := I4.b2.at.c2; have y3 := I4.b2.at.c3; have y4 := I4.b2.at.c4; have y5 := I4.b2.at.c5; have y6 := I4.b2.at.c6
          go_wp2_with fail
          refine (mayTerm_any w4 r' t' I4.t2 ok2).mono ?_
          cases g5 : Tm.mayB t' with
          | false =>
            rintro e w5 ⟨rfl, hb5⟩
            have I5 := I4.below hb5
            clear I4 y0 y1 y2 y3 y4 y5 y6
            go_wp2_with fail
            refine (awake5 w5).mono ?_
            rintro e z1 ⟨rfl, hz1⟩
            go_wp2
            go_ret
            exact ⟨rfl, I5.be.trans (hz1.mono I5.be.size)⟩
          | true =>
            rintro e w5 ⟨rfl, hb5⟩
            have I5 := I4.below hb5
            clear I4 y0 y1 y2 y3 y4 y5 y6
            have y0 := I5.b3.at.c0; have y1 := I5.b3.at.c1; have y2 := I5.b3.at.c2; have y3 := I5.b3.at.c3; have y4 := I5.b3.at.c4; have y5 := I5.b3.at.c5; have y6 := I5.b3.at.c6
            go_wp2_with fail
            refine (mayTerm_any w5 s u I5.t3 ok3).mono ?_
            cases g6 : Tm.mayB u with
            | false =>
              rintro e w6 ⟨rfl, hb6⟩
              have I6 := I5.below hb6
              clear I5 y0 y1 y2 y3 y4 y5 y6
              go_wp2_with fail
              refine (awake5 w6).mono ?_
              rintro e z1 ⟨rfl, hz1⟩
              go_wp2
              go_ret
              exact ⟨rfl, I6.be.trans (hz1.mono I6.be.size)⟩
            | true =>
              rintro e w6 ⟨rfl, hb6⟩
              have I6 := I5.below hb6
              clear I5 y0 y1 y2 y3 y4 y5 y6
              obtain ⟨X, hX⟩ : ∃ X, X = Tm.ordB t t' := ⟨_, rfl⟩
              obtain ⟨Y, hY⟩ : ∃ Y, Y = Tm.ordB t' u := ⟨_, rfl⟩
              obtain ⟨Z, hZ⟩ : ∃ Z, Z = Tm.ordB t u := ⟨_, rfl⟩
              have HX := Lib.hid hX
              have HY := Lib.hid hY
              have HZ := Lib.hid hZ
              have HA : Hid (Alo X Y Z) := Lib.hid (by rw [hX, hY, hZ, ordB_may g4 g5, ordB_may g5 g6, ordB_may g4 g6]; exact Tm.cmpT_alo t t' u)
              have HN : Hid (Tm.ordB t' t = -X) := Lib.hid (by rw [hX, ordB_may g4 g5, ordB_may g5 g4]; exact Tm.cmpT_anti t t')
              have tX : Tri X := by rw [hX]; exact Tm.ordB_tri _ _
              have tY : Tri Y := by rw [hY]; exact Tm.ordB_tri _ _
              have tZ : Tri Z := by rw [hZ]; exact Tm.ordB_tri _ _
              clear hX hY hZ g1 g2 g3
              go_upto_region 3 with fail
              go_cut [7, 8, 9] (fun x y z wx => x = .int .i64 X ∧ y = .int .i64 Y ∧ z = .int .i64 Z ∧ Th w r t r' t' s u wx)
              case first =>
                have E := I6.drew
                obtain ⟨y0, y1, y2, y3, y4, y5, y6⟩ := seven' I6.b1.at
                obtain ⟨x0, x1, x2, x3, x4, x5, x6⟩ := seven' I6.b2.at
                obtain ⟨z0, z1, z2, z3, z4, z5, z6⟩ := seven' I6.b3.at
                clear I6
                have k1 : True := trivial
                have k2 : True := trivial
                have k3 : True := trivial
                go_region_held3 (fun w' => w'.cell? ⟨w.heap.size, 0, none⟩ = some (.int .i64 r.k) ∧ w'.cell? ⟨w.heap.size, 1, none⟩ = some (.int .i64 r.n) ∧ w'.cell? ⟨w.heap.size, 2, none⟩ = some (.bool r.g) ∧ w'.cell? ⟨w.heap.size, 3, none⟩ = some (.slice r.A r.ln r.lc) ∧ w'.cell? ⟨w.heap.size, 4, none⟩ = some (.int .u64 r.u) ∧ w'.cell? ⟨w.heap.size, 5, none⟩ = some (.string r.s) ∧ w'.cell? ⟨w.heap.size, 6, none⟩ = some (.slice r.B r.m r.d) ∧ w'.cell? ⟨w.heap.size + 1, 0, none⟩ = some (.int .i64 r'.k) ∧ w'.cell? ⟨w.heap.size + 1, 1, none⟩ = some (.int .i64 r'.n) ∧ w'.cell? ⟨w.heap.size + 1, 2, none⟩ = some (.bool r'.g) ∧ w'.cell? ⟨w.heap.size + 1, 3, none⟩ = some (.slice r'.A r'.ln r'.lc) ∧ w'.cell? ⟨w.heap.size + 1, 4, none⟩ = some (.int .u64 r'.u) ∧ w'.cell? ⟨w.heap.size + 1, 5, none⟩ = some (.string r'.s) ∧ w'.cell? ⟨w.heap.size + 1, 6, none⟩ = some (.slice r'.B r'.m r'.d) ∧ w'.cell? ⟨w.heap.size + 1 + 1, 0, none⟩ = some (.int .i64 s.k) ∧ w'.cell? ⟨w.heap.size + 1 + 1, 1, none⟩ = some (.int .i64 s.n) ∧ w'.cell? ⟨w.heap.size + 1 + 1, 2, none⟩ = some (.bool s.g) ∧ w'.cell? ⟨w.heap.size + 1 + 1, 3, none⟩ = some (.slice s.A s.ln s.lc) ∧ w'.cell? ⟨w.heap.size + 1 + 1, 4, none⟩ = some (.int .u64 s.u) ∧ w'.cell? ⟨w.heap.size + 1 + 1, 5, none⟩ = some (.string s.s) ∧ w'.cell? ⟨w.heap.size + 1 + 1, 6, none⟩ = some (.slice s.B s.m s.d))
                  (first | exact ⟨y0, y1, y2, y3, y4, y5, y6, x0, x1, x2, x3, x4, x5, x6, z0, z1, z2, z3, z4, z5, z6⟩ | exact ⟨E.b1.at.c0, E.b1.at.c1, E.b1.at.c2, E.b1.at.c3, E.b1.at.c4, E.b1.at.c5, E.b1.at.c6, E.b2.at.c0, E.b2.at.c1, E.b2.at.c2, E.b2.at.c3, E.b2.at.c4, E.b2.at.c5, E.b2.at.c6, E.b3.at.c0, E.b3.at.c1, E.b3.at.c2, E.b3.at.c3, E.b3.at.c4, E.b3.at.c5, E.b3.at.c6⟩)
                  (first
                    | (go_at_call 12; clear k1; have E' := E; clear E; refine (cmp_term _ r t (by exact E'.t1) ok1 r' t' (by exact E'.t2) ok2).mono ?_; rw [← HX.out]; rintro e v ⟨rfl, hv⟩; have E := E'.below hv; clear E' hv)
                    | (go_at_call 12; clear k2; have E' := E; clear E; refine (cmp_term _ r' t' (by exact E'.t2) ok2 s u (by exact E'.t3) ok3).mono ?_; rw [← HY.out]; rintro e v ⟨rfl, hv⟩; have E := E'.below hv; clear E' hv)
                    | (go_at_call 12; clear k3; have E' := E; clear E; refine (cmp_term _ r t (by exact E'.t1) ok1 s u (by exact E'.t3) ok3).mono ?_; rw [← HZ.out]; rintro e v ⟨rfl, hv⟩; have E := E'.below hv; clear E' hv))
                go_wp2_with fail
                go_meet
                exact ⟨rfl, rfl, rfl, E⟩
              clear I6
              obtain ⟨rfl, rfl, rfl, J⟩ := hcut
              go_upto_region 4 with fail
              go_cut [99] (fun x wx => x = .bool false ∧ Th w r t r' t' s u wx)
              case first =>
                have az := HA.out
                have z1 : X ≤ 0 → Y ≤ 0 → decide (0 < Z) = false := fun h1 h2 => decide_eq_false (by have := az.le h1 h2; omega)
                have z2 : 0 ≤ X → 0 ≤ Y → decide (Z < 0) = false := fun h1 h2 => decide_eq_false (by have := az.ge h1 h2; omega)
                clear az HA
                rcases tX with rfl | rfl | rfl <;> rcases tY with rfl | rfl | rfl
                all_goals
                  first | (have z1' := z1 (by decide) (by decide)) | skip
                  first | (have z2' := z2 (by decide) (by decide)) | skip
                  clear z1 z2
                  obtain ⟨y0, y1, y2, y3, y4, y5, y6⟩ := seven' J.b1.at
                  obtain ⟨x0, x1, x2, x3, x4, x5, x6⟩ := seven' J.b2.at
                  go_wp2_with fail
                  refine (cmp_term wc r' t' J.t2 ok2 r t J.t1 ok1).mono ?_
                  rw [HN.out]
                  rintro e v1 ⟨rfl, hv1⟩
                  have J1 := J.below hv1
                  clear J y0 y1 y2 y3 y4 y5 y6 x0 x1 x2 x3 x4 x5 x6
                  obtain ⟨y0, y1, y2, y3, y4, y5, y6⟩ := seven' J1.b1.at
                  obtain ⟨x0, x1, x2, x3, x4, x5, x6⟩ := seven' J1.b2.at
                  go_wp2_with fail
                  refine (same_may v1 r t J1.t1 ok1 r' t' J1.t2 ok2 g4 g5).mono ?_
                  rw [← HX.out]
                  rintro e v2 ⟨rfl, hv2⟩
                  have J2 := J1.below hv2
                  clear J1 y0 y1 y2 y3 y4 y5 y6 x0 x1 x2 x3 x4 x5 x6
                  obtain ⟨y0, y1, y2, y3, y4, y5, y6⟩ := seven' J2.b1.at
                  obtain ⟨x0, x1, x2, x3, x4, x5, x6⟩ := seven' J2.b2.at
                  go_wp2_with fail
                  refine (less_term v2 r t J2.t1 ok1 r' t' J2.t2 ok2).mono ?_
                  rw [← HX.out]
                  rintro e v3 ⟨rfl, hv3⟩
                  have J3 := J2.below hv3
                  clear J2 y0 y1 y2 y3 y4 y5 y6 x0 x1 x2 x3 x4 x5 x6
                  go_wp2_with fail
                  go_meet
                  exact ⟨rfl, J3⟩
              clear J
              obtain ⟨rfl, J⟩ := hcut
              obtain ⟨y0, y1, y2, y3, y4, y5, y6⟩ := seven' J.b1.at
              obtain ⟨x0, x1, x2, x3, x4, x5, x6⟩ := seven' J.b2.at
              obtain ⟨z0, z1, z2, z3, z4, z5, z6⟩ := seven' J.b3.at
              have bA := (Below.refl wc.heap.size wc).alloc (Nat.le_refl _) (.cells #[.int .i64 s.k, .int .i64 s.n, .bool s.g, .slice s.A s.ln s.lc, .int .u64 s.u, .string s.s, .slice s.B s.m s.d, .int .i64 r.k, .int .i64 r.n, .bool r.g, .slice r.A r.ln r.lc, .int .u64 r.u, .string r.s, .slice r.B r.m r.d] 28)
              have JA := J.below bA
              have TA := TVs.two J.t3 J.t1
              obtain ⟨p0, p1, p2, p3, p4, p5, p6⟩ := seven' JA.b2.at
              obtain ⟨q0, q1, q2, q3, q4, q5, q6⟩ := seven' JA.b3.at
              have TB := TVs.two JA.t3 JA.t2
              rw [World.size_alloc] at TB
              have bB := (Below.refl (wc.alloc (.cells #[.int .i64 s.k, .int .i64 s.n, .bool s.g, .slice s.A s.ln s.lc, .int .u64 s.u, .string s.s, .slice s.B s.m s.d, .int .i64 r.k, .int .i64 r.n, .bool r.g, .slice r.A r.ln r.lc, .int .u64 r.u, .string r.s, .slice r.B r.m r.d] 28)).heap.size (wc.alloc (.cells #[.int .i64 s.k, .int .i64 s.n, .bool s.g, .slice s.A s.ln s.lc, .int .u64 s.u, .string s.s, .slice s.B s.m s.d, .int .i64 r.k, .int .i64 r.n, .bool r.g, .slice r.A r.ln r.lc, .int .u64 r.u, .string r.s, .slice r.B r.m r.d] 28))).alloc (Nat.le_refl _) (.cells #[.int .i64 s.k, .int .i64 s.n, .bool s.g, .slice s.A s.ln s.lc, .int .u64 s.u, .string s.s, .slice s.B s.m s.d, .int .i64 r'.k, .int .i64 r'.n, .bool r'.g, .slice r'.A r'.ln r'.lc, .int .u64 r'.u, .string r'.s, .slice r'.B r'.m r'.d] 28)
              have JB := JA.below bB
              have TA' := TA.below bB
              have HJ := Lib.hid JB
              have HTA := Lib.hid TA'
              have HTB := Lib.hid TB
              obtain ⟨P, hP⟩ : ∃ P, P = Tm.ordB (consT u t) (consT u t') := ⟨_, rfl⟩
              have HP := Lib.hid hP
              clear hP JA JB TA TA' TB bA bB J
              go_wp2_with fail
              clear y0 y1 y2 y3 y4 y5 y6 x0 x1 x2 x3 x4 x5 x6 z0 z1 z2 z3 z4 z5 z6 p0 p1 p2 p3 p4 p5 p6 q0 q1 q2 q3 q4 q5 q6
              generalize (wc.alloc (.cells #[.int .i64 s.k, .int .i64 s.n, .bool s.g, .slice s.A s.ln s.lc, .int .u64 s.u, .string s.s, .slice s.B s.m s.d, .int .i64 r.k, .int .i64 r.n, .bool r.g, .slice r.A r.ln r.lc, .int .u64 r.u, .string r.s, .slice r.B r.m r.d] 28)).alloc (.cells #[.int .i64 s.k, .int .i64 s.n, .bool s.g, .slice s.A s.ln s.lc, .int .u64 s.u, .string s.s, .slice s.B s.m s.d, .int .i64 r'.k, .int .i64 r'.n, .bool r'.g, .slice r'.A r'.ln r'.lc, .int .u64 r'.u, .string r'.s, .slice r'.B r'.m r'.d] 28) = V at *
              have J := HJ.out
              have nA := TV.node (k := 8) (n := 0) (u := 0) (s := ⟨#[]⟩) HTA.out (by omega) (by omega) (by omega) (by omega) (by omega) (by omega) (by decide)
              have nB := TV.node (k := 8) (n := 0) (u := 0) (s := ⟨#[]⟩) HTB.out (by omega) (by omega) (by omega) (by omega) (by omega) (by omega) (by decide)
              refine (cmp_term V (mkR 8 0 0 ⟨#[]⟩ (some ⟨wc.heap.size, 0, none⟩) 2 2) (consT u t) nA (consT_ok ok3 ok1) (mkR 8 0 0 ⟨#[]⟩ (some ⟨wc.heap.size + 1, 0, none⟩) 2 2) (consT u t') nB (consT_ok ok3 ok2)).mono ?_
              rw [← HP.out]
              rintro e v1 ⟨rfl, hv1⟩
              have J1 := J.below hv1
              clear J nA nB HJ HTA HTB
              by_cases hpx : P = X
              · have hd : (P == X) = true := beq_iff_eq.2 hpx
                clear hpx
                go_wp2_with fail
                refine (awake5 v1).mono ?_
                rintro e v2 ⟨rfl, hv2⟩
                go_wp2
                go_ret
                exact ⟨rfl, J1.be.trans (hv2.mono J1.be.size)⟩
              · have hd : (P == X) = false := beq_eq_false_iff_ne.2 hpx
                have hno := total_pair g4 g5 g6 (by rw [← HP.out, ← HX.out]; exact hpx)
                have hsz : Tm.size.sizes [u, t, t', u] ≤ 10000 := by
                  have e1 := size_wt t (Tm.may_form g4)
                  have e2 := size_wt t' (Tm.may_form g5)
                  have e3 := size_wt u (Tm.may_form g6)
                  have f1 := wt_may g4
                  have f2 := wt_may g5
                  have f3 := wt_may g6
                  simp only [Tm.size.sizes]
                  omega
                have hok : ∀ x ∈ [u, t, t', u], x.Ok := by
                  intro x hx
                  simp at hx
                  rcases hx with rfl | rfl | rfl | rfl <;> assumption
                clear hpx
                obtain ⟨y0, y1, y2, y3, y4, y5, y6⟩ := seven' J1.b1.at
                obtain ⟨x0, x1, x2, x3, x4, x5, x6⟩ := seven' J1.b2.at
                obtain ⟨z0, z1, z2, z3, z4, z5, z6⟩ := seven' J1.b3.at
                have T4 := TVs.four J1.t3 J1.t1 J1.t2 J1.t3
                have b4 := (Below.refl v1.heap.size v1).alloc (Nat.le_refl _) (.cells #[.int .i64 s.k, .int .i64 s.n, .bool s.g, .slice s.A s.ln s.lc, .int .u64 s.u, .string s.s, .slice s.B s.m s.d, .int .i64 r.k, .int .i64 r.n, .bool r.g, .slice r.A r.ln r.lc, .int .u64 r.u, .string r.s, .slice r.B r.m r.d, .int .i64 r'.k, .int .i64 r'.n, .bool r'.g, .slice r'.A r'.ln r'.lc, .int .u64 r'.u, .string r'.s, .slice r'.B r'.m r'.d, .int .i64 s.k, .int .i64 s.n, .bool s.g, .slice s.A s.ln s.lc, .int .u64 s.u, .string s.s, .slice s.B s.m s.d] 28)
                have HJ := Lib.hid (J1.below b4)
                have HT := Lib.hid T4
                clear J1 T4 b4
                go_wp2_with fail
                clear y0 y1 y2 y3 y4 y5 y6 x0 x1 x2 x3 x4 x5 x6 z0 z1 z2 z3 z4 z5 z6
                generalize v1.alloc (.cells #[.int .i64 s.k, .int .i64 s.n, .bool s.g, .slice s.A s.ln s.lc, .int .u64 s.u, .string s.s, .slice s.B s.m s.d, .int .i64 r.k, .int .i64 r.n, .bool r.g, .slice r.A r.ln r.lc, .int .u64 r.u, .string r.s, .slice r.B r.m r.d, .int .i64 r'.k, .int .i64 r'.n, .bool r'.g, .slice r'.A r'.ln r'.lc, .int .u64 r'.u, .string r'.s, .slice r'.B r'.m r'.d, .int .i64 s.k, .int .i64 s.n, .bool s.g, .slice s.A s.ln s.lc, .int .u64 s.u, .string s.s, .slice s.B s.m s.d] 28) = V1 at *
                refine (list_any V1 _ 4 4 [u, t, t', u] (by exact HT.out) hok hsz).mono ?_
                rintro e v2 ⟨R2, rfl, hT2, hv2⟩
                have J2 := HJ.out.below hv2
                clear HJ HT
                go_wp2_with fail
                refine (mayTerm_any v2 R2 _ hT2 (listT_ok hok)).mono ?_
                rw [hno]
                rintro e v3 ⟨rfl, hv3⟩
                have J3 := J2.below hv3
                clear J2 hT2
                go_wp2_with fail
                refine (awake5 v3).mono ?_
                rintro e v4 ⟨rfl, hv4⟩
                go_wp2
                go_ret
                exact ⟨rfl, J3.be.trans (hv4.mono J3.be.size)⟩
end Go.Proofs.Ytbhmkdbdhojmcaa
