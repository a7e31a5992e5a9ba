/-
  THE WALK OF OrderLists.
-/
import Derived.Test.YtbhmkdbdhojmcaaJ11
namespace Go.Proofs.Ytbhmkdbdhojmcaa
open Go.RowKit
open Od

/-- Two variables that hold terms, which lie beside them. -/
structure OlI (w : World) (p q : Nat) (Ra Rb : TR) (ta tb : Tm) (W : World) : Prop where
  bp : Box7 W p Ra
  bq : Box7 W q Rb
  pq : p ≠ q
  gp : w.heap.size ≤ p
  gq : w.heap.size ≤ q
  ta : TVS (fun b => b ≠ p ∧ b ≠ q) W Ra ta
  tb : TVS (fun b => b ≠ p ∧ b ≠ q) W Rb tb
  be : Below w.heap.size w W
section
variable {w : World} {p q : Nat} {Ra Rb : TR} {ta tb : Tm} {W W' : World}
set_option maxRecDepth 100000 in
theorem OlI.below (h : OlI w p q Ra Rb ta tb W) (hb : Below W.heap.size W W') : OlI w p q Ra Rb ta tb W' :=
  ⟨h.bp.below hb, h.bq.below hb, h.pq, h.gp, h.gq, h.ta.keep (hb.keeps _), h.tb.keep (hb.keeps _), h.be.trans (hb.mono h.be.size)⟩
set_option maxRecDepth 100000 in
theorem OlI.drew (h : OlI w p q Ra Rb ta tb W) : OlI w p q Ra Rb ta tb W.drew := h.below (Below.refl _ _).drew
set_option maxRecDepth 100000 in
theorem OlI.put1 (h : OlI w p q Ra Rb ta tb W) {R : TR} {t : Tm} (ht : TVS (fun b => b ≠ p ∧ b ≠ q) W R t) : OlI w p q R Rb t tb (put7 W p R) := by
  have k := (Keeps.refl (fun b => b ≠ p ∧ b ≠ q) W).put7 (g := p) (by simp) R
  exact ⟨h.bp.put R, h.bq.put' h.pq R, h.pq, h.gp, h.gq, ht.keep k, h.tb.keep k, h.be.put7 h.gp R⟩
set_option maxRecDepth 100000 in
theorem OlI.put2 (h : OlI w p q Ra Rb ta tb W) {R : TR} {t : Tm} (ht : TVS (fun b => b ≠ p ∧ b ≠ q) W R t) : OlI w p q Ra R ta t (put7 W q R) := by
  have k := (Keeps.refl (fun b => b ≠ p ∧ b ≠ q) W).put7 (g := q) (by simp) R
  exact ⟨h.bp.put' h.pq.symm R, h.bq.put R, h.pq, h.gp, h.gq, h.ta.keep k, ht.keep k, h.be.put7 h.gq R⟩
set_option maxRecDepth 100000 in
theorem OlI.new {w1 : World} (hb : Below w.heap.size w w1) (h1 : TVS (fun b => b < w1.heap.size) w1 Ra ta) (h2 : TVS (fun b => b < w1.heap.size) w1 Rb tb) :
    OlI w w1.heap.size (w1.heap.size + 1) Ra Rb ta tb ((w1.alloc (.cells #[.int .i64 Ra.k, .int .i64 Ra.n, .bool Ra.g, .slice Ra.A Ra.ln Ra.lc, .int .u64 Ra.u, .string Ra.s, .slice Ra.B Ra.m Ra.d] 28)).alloc (.cells #[.int .i64 Rb.k, .int .i64 Rb.n, .bool Rb.g, .slice Rb.A Rb.ln Rb.lc, .int .u64 Rb.u, .string Rb.s, .slice Rb.B Rb.m Rb.d] 28)) := by
  have k := ((Keeps.refl (fun b => b < w1.heap.size) w1).alloc (.cells #[.int .i64 Ra.k, .int .i64 Ra.n, .bool Ra.g, .slice Ra.A Ra.ln Ra.lc, .int .u64 Ra.u, .string Ra.s, .slice Ra.B Ra.m Ra.d] 28)).alloc (.cells #[.int .i64 Rb.k, .int .i64 Rb.n, .bool Rb.g, .slice Rb.A Rb.ln Rb.lc, .int .u64 Rb.u, .string Rb.s, .slice Rb.B Rb.m Rb.d] 28)
  have n := Box7.new (w1.alloc (.cells #[.int .i64 Ra.k, .int .i64 Ra.n, .bool Ra.g, .slice Ra.A Ra.ln Ra.lc, .int .u64 Ra.u, .string Ra.s, .slice Ra.B Ra.m Ra.d] 28)) Rb
  rw [World.size_alloc] at n
  have hs := hb.size
  exact ⟨(Box7.new w1 Ra).below ((Below.refl _ _).alloc (Nat.le_refl _) _), n, by omega, hs, by omega, (h1.keep k).mono (fun b h => ⟨by omega, by omega⟩), (h2.keep k).mono (fun b h => ⟨by omega, by omega⟩), (hb.alloc hs _).alloc (by simp; omega) _⟩
end

set_option maxRecDepth 100000 in
set_option maxHeartbeats 8000000 in
theorem orderLists_walk (w : World) (A : Option Addr) (n c : Nat) (ns : List Int) (h : Ns w A n ns) (A' : Option Addr) (m d : Nat) (ms : List Int) (h' : Ns w A' m ms) :
    Calls Try.prog 7 #[.slice A n c, .slice A' m d] w fun e w' => e = .returned (.bool true) ∧ Below w.heap.size w w' := by
  by_cases hg : 40 < n ∨ 40 < m
  · have hd : (decide ((40 : Int) < (n : Int)) = true) ∨ (decide ((40 : Int) < (n : Int)) = false ∧ decide ((40 : Int) < (m : Int)) = true) := by
      by_cases h1 : 40 < n
      · exact .inl (decide_eq_true (by omega))
      · exact .inr ⟨decide_eq_false (by omega), decide_eq_true (by omega)⟩
    rcases hd with hd | ⟨hd, hd'⟩
    all_goals
      go_enter Try.func7, Try.ntmps7
      go_wp2_with fail
      refine (awake5 w).mono ?_
      rintro e w1 ⟨rfl, hb1⟩
      go_wp2
      go_ret
      exact ⟨rfl, hb1⟩
  · have hd : decide ((40 : Int) < (n : Int)) = false := decide_eq_false (by omega)
    have hd' : decide ((40 : Int) < (m : Int)) = false := decide_eq_false (by omega)
    have HN := Lib.hid h
    have HM := Lib.hid h'
    have hn40 : n ≤ 40 := by omega
    have hm40 : m ≤ 40 := by omega
    clear h h' hg
    go_enter Try.func7, Try.ntmps7
    go_wp2_with fail
    refine (list_any w none 0 0 [] (TVs.nil _ _ _ (Nat.zero_le _)) (by simp) (by simp [Tm.size.sizes])).mono ?_
    rintro e w1 ⟨Ra, rfl, hTa, hb1⟩
    go_wp2_with fail
    refine (list_any w1 none 0 0 [] (TVs.nil _ _ _ (Nat.zero_le _)) (by simp) (by simp [Tm.size.sizes])).mono ?_
    rintro e w2 ⟨Rb, rfl, hTb, hb2⟩
    have J := OlI.new (hb1.trans (hb2.mono hb1.size)) (hTa.bel hb2).tvS hTb.tvS
    clear hTa hTb hb1 hb2
    go_wp2_with fail
    generalize (w2.alloc (.cells #[.int .i64 Ra.k, .int .i64 Ra.n, .bool Ra.g, .slice Ra.A Ra.ln Ra.lc, .int .u64 Ra.u, .string Ra.s, .slice Ra.B Ra.m Ra.d] 28)).alloc (.cells #[.int .i64 Rb.k, .int .i64 Rb.n, .bool Rb.g, .slice Rb.A Rb.ln Rb.lc, .int .u64 Rb.u, .string Rb.s, .slice Rb.B Rb.m Rb.d] 28) = W at *
    obtain ⟨p, hp⟩ : ∃ p, p = w2.heap.size := ⟨_, rfl⟩
    obtain ⟨q, hq⟩ : ∃ q, q = w2.heap.size + 1 := ⟨_, rfl⟩
    rw [← hq, ← hp] at J ⊢
    clear hp hq
    go_loopw [7] (fun i w' => ∃ (j : Nat) (R : TR), j ≤ n ∧ i = .int .i64 ((j : Int) - 1) ∧ OlI w p q R Rb (numL (ns.drop j)) (numL []) w') (fun i _ => (intOf i + 1).toNat)
    case atStart => exact ⟨n, _, Nat.le_refl _, rfl, by rw [List.drop_eq_nil_of_le (by rw [HN.out.len]; omega)]; exact J⟩
    case round =>
      clear J
      obtain ⟨j, R, hj, rfl, J⟩ := hrel
      cases j with
      | succ k =>
        rw [show ((k + 1 : Nat) : Int) - 1 = (k : Int) by omega]
        have hd1 : decide ((0 : Int) ≤ (k : Int)) = true := by rw [decide_eq_true_iff]; omega
        have hkm : (k : Int) < (n : Int) := by omega
        obtain ⟨b, o, z, e, hlt, hez, hcz, hz1, hz2⟩ := (HN.out.below J.be).get k (by omega)
        subst e
        have hst := Lib.hid (show numL (ns.drop k) = .mk 8 0 false [] 0 ⟨#[]⟩ [intT z, numL (ns.drop (k + 1))] by
          rw [List.drop_eq_getElem_cons (by rw [HN.out.len]; omega), numL_cons]
          rw [List.getElem?_eq_getElem (by rw [HN.out.len]; omega)] at hez
          injection hez with hez
          rw [hez])
        have y0 := J.bp.at.c0; have y1 := J.bp.at.c1; have y2 := J.bp.at.c2; have y3 := J.bp.at.c3; have y4 := J.bp.at.c4; have y5 := J.bp.at.c5; have y6 := J.bp.at.c6
        have HJ := Lib.hid J.drew
        clear J hez
        go_wp2_with fail
        go_region_with (first
          | (go_at_call 26; refine (int_any wr.drew z hz1 hz2).mono ?_; rintro e v ⟨Rz, rfl, hTz, hv⟩; have H2 := Lib.hid (HJ.out.below hv); clear y0 y1 y2 y3 y4 y5 y6; have y0 := H2.out.bp.at.c0; have y1 := H2.out.bp.at.c1; have y2 := H2.out.bp.at.c2; have y3 := H2.out.bp.at.c3; have y4 := H2.out.bp.at.c4; have y5 := H2.out.bp.at.c5; have y6 := H2.out.bp.at.c6)
          | (go_at_call 25; refine (pair_any _ (fun b => b ≠ p ∧ b ≠ q) (fun b hb => ⟨by have := H2.out.bp.lt; omega, by have := H2.out.bq.lt; omega⟩) Rz R (intT z) (numL (ns.drop (k + 1))) (TVS.num hTz (intT_args (top64 hz1 hz2)) H2.out.bp H2.out.bq) H2.out.ta).mono ?_; rw [← hst.out]; rintro e v2 ⟨Rp, rfl, hTp, hv2⟩; have H3 := Lib.hid (H2.out.below hv2); clear y0 y1 y2 y3 y4 y5 y6; have y0 := H3.out.bp.at.c0; have y1 := H3.out.bp.at.c1; have y2 := H3.out.bp.at.c2; have y3 := H3.out.bp.at.c3; have y4 := H3.out.bp.at.c4; have y5 := H3.out.bp.at.c5; have y6 := H3.out.bp.at.c6; have f0 := H3.out.bp.frozen 0; have f1 := H3.out.bp.frozen 1; have f2 := H3.out.bp.frozen 2; have f3 := H3.out.bp.frozen 3; have f4 := H3.out.bp.frozen 4; have f5 := H3.out.bp.frozen 5; have f6 := H3.out.bp.frozen 6))
        all_goals
          go_wp2_with fail
          exact ⟨⟨k, Rp, by omega, by go_num, by exact H3.out.put1 hTp⟩, by simp [intOf]⟩
      | zero =>
        rw [show ((0 : Nat) : Int) - 1 = -1 from rfl]
        have hd1 : decide ((0 : Int) ≤ -1) = false := by decide
        rw [List.drop_zero] at J
        go_wp2_with fail
        go_loopw [8] (fun i w' => ∃ (j : Nat) (R' : TR), j ≤ m ∧ i = .int .i64 ((j : Int) - 1) ∧ OlI w p q R R' (numL ns) (numL (ms.drop j)) w') (fun i _ => (intOf i + 1).toNat)
        case atStart => exact ⟨m, _, Nat.le_refl _, rfl, by rw [List.drop_eq_nil_of_le (by rw [HM.out.len]; omega)]; exact J⟩
        case round =>
          clear J
          obtain ⟨j, R', hj', rfl, J⟩ := hrel
          cases j with
          | succ k =>
            rw [show ((k + 1 : Nat) : Int) - 1 = (k : Int) by omega]
            have hd2 : decide ((0 : Int) ≤ (k : Int)) = true := by rw [decide_eq_true_iff]; omega
            have hkm : (k : Int) < (m : Int) := by omega
            obtain ⟨b, o, z, e, hlt, hez, hcz, hz1, hz2⟩ := (HM.out.below J.be).get k (by omega)
            subst e
            have hst := Lib.hid (show numL (ms.drop k) = .mk 8 0 false [] 0 ⟨#[]⟩ [intT z, numL (ms.drop (k + 1))] by
              rw [List.drop_eq_getElem_cons (by rw [HM.out.len]; omega), numL_cons]
              rw [List.getElem?_eq_getElem (by rw [HM.out.len]; omega)] at hez
              injection hez with hez
              rw [hez])
            have y0 := J.bq.at.c0; have y1 := J.bq.at.c1; have y2 := J.bq.at.c2; have y3 := J.bq.at.c3; have y4 := J.bq.at.c4; have y5 := J.bq.at.c5; have y6 := J.bq.at.c6
            have HJ := Lib.hid J.drew
            clear J hez
            go_wp2_with fail
            go_region_with (first
              | (go_at_call 26; refine (int_any wr.drew z hz1 hz2).mono ?_; rintro e v ⟨Rz, rfl, hTz, hv⟩; have H2 := Lib.hid (HJ.out.below hv); clear y0 y1 y2 y3 y4 y5 y6; have y0 := H2.out.bq.at.c0; have y1 := H2.out.bq.at.c1; have y2 := H2.out.bq.at.c2; have y3 := H2.out.bq.at.c3; have y4 := H2.out.bq.at.c4; have y5 := H2.out.bq.at.c5; have y6 := H2.out.bq.at.c6)
              | (go_at_call 25; refine (pair_any _ (fun b => b ≠ p ∧ b ≠ q) (fun b hb => ⟨by have := H2.out.bp.lt; omega, by have := H2.out.bq.lt; omega⟩) Rz R' (intT z) (numL (ms.drop (k + 1))) (TVS.num hTz (intT_args (top64 hz1 hz2)) H2.out.bp H2.out.bq) H2.out.tb).mono ?_; rw [← hst.out]; rintro e v2 ⟨Rp, rfl, hTp, hv2⟩; have H3 := Lib.hid (H2.out.below hv2); clear y0 y1 y2 y3 y4 y5 y6; have y0 := H3.out.bq.at.c0; have y1 := H3.out.bq.at.c1; have y2 := H3.out.bq.at.c2; have y3 := H3.out.bq.at.c3; have y4 := H3.out.bq.at.c4; have y5 := H3.out.bq.at.c5; have y6 := H3.out.bq.at.c6; have f0 := H3.out.bq.frozen 0; have f1 := H3.out.bq.frozen 1; have f2 := H3.out.bq.frozen 2; have f3 := H3.out.bq.frozen 3; have f4 := H3.out.bq.frozen 4; have f5 := H3.out.bq.frozen 5; have f6 := H3.out.bq.frozen 6))
            all_goals
              go_wp2_with fail
              go_roundw
              case rel => exact ⟨k, Rp, by omega, by go_num, by exact H3.out.put2 hTp⟩
              case measure => simp [intOf]
          | zero =>
            rw [show ((0 : Nat) : Int) - 1 = -1 from rfl]
            have hd2 : decide ((0 : Int) ≤ -1) = false := by decide
            rw [List.drop_zero] at J
            have hna : ∀ z ∈ ns, z.natAbs < Lm.top := fun z hz => top64 (HN.out.rng z hz).1 (HN.out.rng z hz).2
            have hma : ∀ z ∈ ms, z.natAbs < Lm.top := fun z hz => top64 (HM.out.rng z hz).1 (HM.out.rng z hz).2
            have oka := numL_ok hna
            have okb := numL_ok hma
            have y0 := J.bp.at.c0; have y1 := J.bp.at.c1; have y2 := J.bp.at.c2; have y3 := J.bp.at.c3; have y4 := J.bp.at.c4; have y5 := J.bp.at.c5; have y6 := J.bp.at.c6
            go_wp2_with fail
            refine (mayTerm_any wr R (numL ns) J.ta.tv oka).mono ?_
            cases hm1 : (numL ns).mayB with
            | false =>
              rintro e v1 ⟨rfl, hv1⟩
              have J1 := J.below hv1
              clear J y0 y1 y2 y3 y4 y5 y6
              go_wp2_with fail
              refine (awake5 v1).mono ?_
              rintro e v2 ⟨rfl, hv2⟩
              go_wp2
              go_ret
              exact ⟨rfl, J1.be.trans (hv2.mono J1.be.size)⟩
            | true =>
              rintro e v1 ⟨rfl, hv1⟩
              have J1 := J.below hv1
              clear J y0 y1 y2 y3 y4 y5 y6
              have y0 := J1.bq.at.c0; have y1 := J1.bq.at.c1; have y2 := J1.bq.at.c2; have y3 := J1.bq.at.c3; have y4 := J1.bq.at.c4; have y5 := J1.bq.at.c5; have y6 := J1.bq.at.c6
              go_wp2_with fail
              refine (mayTerm_any v1 R' (numL ms) J1.tb.tv okb).mono ?_
              cases hm2 : (numL ms).mayB with
              | false =>
                rintro e v2 ⟨rfl, hv2⟩
                have J2 := J1.below hv2
                clear J1 y0 y1 y2 y3 y4 y5 y6
                go_wp2_with fail
                refine (awake5 v2).mono ?_
                rintro e v3 ⟨rfl, hv3⟩
                go_wp2
                go_ret
                exact ⟨rfl, J2.be.trans (hv3.mono J2.be.size)⟩
              | true =>
                rintro e v2 ⟨rfl, hv2⟩
                have J2 := J1.below hv2
                clear J1 y0 y1 y2 y3 y4 y5 y6
                have hO1 := Lib.hid (show Tm.ordB (numL ns) (numL ms) = lex Od.sg ns ms by rw [ordB_may hm1 hm2, cmpT_list hna hma])
                have hO2 := Lib.hid (show Tm.ordB (numL ms) (numL ns) = -lex Od.sg ns ms by rw [ordB_may hm2 hm1, Tm.cmpT_anti, cmpT_list hna hma])
                have htri := Lib.hid (lex_tri (f := Od.sg) (xs := ns) (ys := ms) fun _ _ _ _ => sg_tri _ _)
                clear hna hma hm1 hm2
                go_wp2_with fail
                go_loopw [9, 10] (fun x i w' => ∃ (j : Nat) (z : Int), j ≤ 41 ∧ i = .int .i64 (j : Int) ∧ x = .int .i64 z ∧ Tri z ∧ Hid (lex Od.sg ns ms = andC z (lex Od.sg (ns.drop j) (ms.drop j))) ∧ OlI w p q R R' (numL ns) (numL ms) w') (fun _ i _ => 41 - (intOf i).toNat)
                case atStart => exact ⟨0, 0, by omega, rfl, rfl, .inr (.inl rfl), Lib.hid (by rw [List.drop_zero, List.drop_zero]; rfl), J2⟩
                case round =>
                  clear J2
                  obtain ⟨j, z, hj3, rfl, rfl, hz, hl, J⟩ := hrel
                  obtain ⟨Z, hZ⟩ : ∃ Z, Z = lex Od.sg ns ms := ⟨_, rfl⟩
                  have HO1 := Lib.hid (hO1.out.trans hZ.symm)
                  have HO2 := Lib.hid (hO2.out.trans (by rw [← hZ]))
                  have fin : ∀ W, OlI w p q R R' (numL ns) (numL ms) W → True := fun _ _ => trivial
                  clear fin
                  have hend : Hid ((z ≠ 0 ∨ (n ≤ j ∧ m ≤ j)) → z = Z) := Lib.hid (fun hh => by
                    rw [hZ, hl.out]
                    by_cases e : z = 0
                    · have hh' := hh.resolve_left (fun h => h e)
                      rw [List.drop_eq_nil_of_le (by rw [HN.out.len]; exact hh'.1), List.drop_eq_nil_of_le (by rw [HM.out.len]; exact hh'.2), e]
                      rfl
                    · rw [andC, if_neg e])
                  by_cases hex : z ≠ 0 ∨ (n ≤ j ∧ m ≤ j)
                  · have hzZ := hend.out hex
                    subst hzZ
                    clear hl hend hO1 hO2 hZ htri
                    obtain ⟨y0, y1, y2, y3, y4, y5, y6⟩ := seven' J.bp.at
                    obtain ⟨x0, x1, x2, x3, x4, x5, x6⟩ := seven' J.bq.at
                    have tri := hz
                    have hcond : (n < m ∧ j < m ∧ (z == 0) = false) ∨ (n < m ∧ ¬ j < m) ∨ (¬ n < m ∧ j < n ∧ (z == 0) = false) ∨ (¬ n < m ∧ ¬ j < n) := by
                      by_cases e : z = 0
                      · have h := hex.resolve_left (fun h => h e)
                        omega
                      · have e' : (z == 0) = false := beq_eq_false_iff_ne.2 e
                        by_cases h1 : n < m
                        · by_cases h2 : j < m
                          · exact .inl ⟨h1, h2, e'⟩
                          · exact .inr (.inl ⟨h1, h2⟩)
                        · by_cases h2 : j < n
                          · exact .inr (.inr (.inl ⟨h1, h2, e'⟩))
                          · exact .inr (.inr (.inr ⟨h1, h2⟩))
                    clear hex hz
                    rcases hcond with ⟨hc1, hc2, hc3⟩ | ⟨hc1, hc2⟩ | ⟨hc1, hc2, hc3⟩ | ⟨hc1, hc2⟩
                    all_goals
                      go_wp2_with fail
                      refine (cmp_term wr R (numL ns) J.ta.tv oka R' (numL ms) J.tb.tv okb).mono ?_
                      rw [HO1.out]
                      rintro e v1 ⟨rfl, hv1⟩
                      have J1 := J.below hv1
                      clear J y0 y1 y2 y3 y4 y5 y6 x0 x1 x2 x3 x4 x5 x6
                      obtain ⟨y0, y1, y2, y3, y4, y5, y6⟩ := seven' J1.bp.at
                      obtain ⟨x0, x1, x2, x3, x4, x5, x6⟩ := seven' J1.bq.at
                      go_wp2_with fail
                      refine (cmp_term v1 R' (numL ms) J1.tb.tv okb R (numL ns) J1.ta.tv oka).mono ?_
                      rw [HO2.out]
                      rintro e v2 ⟨rfl, hv2⟩
                      have J2 := J1.below hv2
                      clear J1 y0 y1 y2 y3 y4 y5 y6 x0 x1 x2 x3 x4 x5 x6
                      obtain ⟨y0, y1, y2, y3, y4, y5, y6⟩ := seven' J2.bp.at
                      obtain ⟨x0, x1, x2, x3, x4, x5, x6⟩ := seven' J2.bq.at
                      have hneg : IntKind.i64.wrap (-z) = -z := by rcases tri with rfl | rfl | rfl <;> rfl
                      have hz3 : -9223372036854775808 ≤ -z ∧ -z ≤ 9223372036854775807 := by rcases tri with rfl | rfl | rfl <;> exact ⟨by decide, by decide⟩
                      go_wp2_with fail
                      refine (less_term v2 R (numL ns) J2.ta.tv oka R' (numL ms) J2.tb.tv okb).mono ?_
                      rw [HO1.out]
                      rintro e v3 ⟨rfl, hv3⟩
                      have J3 := J2.below hv3
                      clear J2 y0 y1 y2 y3 y4 y5 y6 x0 x1 x2 x3 x4 x5 x6
                      go_wp2_with fail
                      refine (awake5 v3).mono ?_
                      rintro e v4 ⟨rfl, hv4⟩
                      go_wp2
                      go_ret
                      exact ⟨rfl, J3.be.trans (hv4.mono J3.be.size)⟩
                  · have hz0 : z = 0 := Classical.byContradiction fun e => hex (.inl e)
                    subst hz0
                    have hlt2 : j < n ∨ j < m := by omega
                    clear hex hend HO1 HO2 hO1 hO2 hZ
                    have hL : lex Od.sg ns ms = lex Od.sg (ns.drop j) (ms.drop j) := by rw [hl.out]; rfl
                    have ed : ∀ (zs : List Int) (x : Int), zs[j]? = some x → zs.drop j = x :: zs.drop (j + 1) := fun zs x e => by
                      obtain ⟨h1, h2⟩ := List.getElem?_eq_some_iff.1 e
                      rw [List.drop_eq_getElem_cons h1, h2]
                    have HL := Lib.hid hL
                    have ED := Lib.hid ed
                    clear hl hL ed
                    by_cases hnj : n ≤ j
                    · have hc1 : n < m := by omega
                      have hc2 : j < m := by omega
                      obtain ⟨b, o, y, e, hlt, hey, hcy, hy1, hy2⟩ := (HM.out.below J.be).get j hc2
                      have hst := Lib.hid (show lex Od.sg ns ms = andC (-1) (lex Od.sg (ns.drop (j + 1)) (ms.drop (j + 1))) by
                        rw [HL.out, List.drop_eq_nil_of_le (by rw [HN.out.len]; exact hnj), ED.out ms y hey]
                        rfl)
                      clear e hey hcy
                      go_wp2_with fail
                      exact ⟨⟨j + 1, -1, by omega, by go_num, rfl, .inl rfl, hst, J⟩, by simp [intOf]; omega⟩
                    · by_cases hmj : m ≤ j
                      · have hc1 : ¬ n < m := by omega
                        have hc2 : j < n := by omega
                        obtain ⟨b, o, x, e, hlt, hex, hcx, hx1, hx2⟩ := (HN.out.below J.be).get j hc2
                        have hst := Lib.hid (show lex Od.sg ns ms = andC 1 (lex Od.sg (ns.drop (j + 1)) (ms.drop (j + 1))) by
                          rw [HL.out, List.drop_eq_nil_of_le (show ms.length ≤ j by rw [HM.out.len]; exact hmj), ED.out ns x hex]
                          rfl)
                        clear e hex hcx
                        go_wp2_with fail
                        exact ⟨⟨j + 1, 1, by omega, by go_num, rfl, .inr (.inr rfl), hst, J⟩, by simp [intOf]; omega⟩
                      · obtain ⟨b, o, x, e, hlt, hex, hcx, hx1, hx2⟩ := (HN.out.below J.be).get j (by omega)
                        obtain ⟨b', o', y, e', hlt', hey, hcy, hy1, hy2⟩ := (HM.out.below J.be).get j (by omega)
                        subst e e'
                        have hlx := Lib.hid (show lex Od.sg ns ms = andC (Od.sg x y) (lex Od.sg (ns.drop (j + 1)) (ms.drop (j + 1))) by
                          rw [HL.out, ED.out ns x hex, ED.out ms y hey]
                          rfl)
                        have hjn : (j : Int) < (n : Int) := by omega
                        have hjm : (j : Int) < (m : Int) := by omega
                        have hcond : (n < m ∧ j < m) ∨ (¬ n < m ∧ j < n) := by omega
                        clear hex hey hx1 hx2 hy1 hy2
                        rcases hcond with ⟨hc1, hc2⟩ | ⟨hc1, hc2⟩
                        all_goals
                          go_wp2_with fail
                          go_quiet (fail)
                          have Jd : OlI w p q R R' (numL ns) (numL ms) (wr.drewN nq) := J.below ((Below.refl _ _).drewN' _)
                          have hcx' : (wr.drewN nq).cell? ⟨b, o + j, none⟩ = some (.int .i64 x) := hcx
                          have hcy' : (wr.drewN nq).cell? ⟨b', o' + j, none⟩ = some (.int .i64 y) := hcy
                          clear J hcx hcy
                          generalize wr.drewN nq = W2 at *
                          rcases Int.lt_trichotomy x y with h | h | h
                          · have hd3 : x < y := h
                            have hst := Lib.hid (show lex Od.sg ns ms = andC (-1) (lex Od.sg (ns.drop (j + 1)) (ms.drop (j + 1))) by
                              rw [hlx.out, show Od.sg x y = -1 by unfold Od.sg; rw [if_pos h]])
                            clear h
                            go_wp2_with fail
                            exact ⟨⟨j + 1, -1, by omega, by go_num, rfl, .inl rfl, hst, Jd⟩, by simp [intOf]; omega⟩
                          · subst h
                            have hd3 : ¬ x < x := by omega
                            have hst := Lib.hid (show lex Od.sg ns ms = andC 0 (lex Od.sg (ns.drop (j + 1)) (ms.drop (j + 1))) by
                              rw [hlx.out, sg_self])
                            go_wp2_with fail
                            go_quiet (fail)
                            have Je : OlI w p q R R' (numL ns) (numL ms) (W2.drewN nq) := Jd.below ((Below.refl _ _).drewN' _)
                            clear Jd
                            go_wp2_with fail
                            exact ⟨⟨j + 1, 0, by omega, by go_num, rfl, .inr (.inl rfl), hst, Je⟩, by simp [intOf]; omega⟩
                          · have hd3 : ¬ x < y := by omega
                            have hd4 : y < x := h
                            have hst := Lib.hid (show lex Od.sg ns ms = andC 1 (lex Od.sg (ns.drop (j + 1)) (ms.drop (j + 1))) by
                              rw [hlx.out, show Od.sg x y = 1 by unfold Od.sg; rw [if_neg (by omega), if_pos h]])
                            clear h
                            go_wp2_with fail
                            go_quiet (fail)
                            have Je : OlI w p q R R' (numL ns) (numL ms) (W2.drewN nq) := Jd.below ((Below.refl _ _).drewN' _)
                            clear Jd
                            go_wp2_with fail
                            exact ⟨⟨j + 1, 1, by omega, by go_num, rfl, .inr (.inr rfl), hst, Je⟩, by simp [intOf]; omega⟩
end Go.Proofs.Ytbhmkdbdhojmcaa
