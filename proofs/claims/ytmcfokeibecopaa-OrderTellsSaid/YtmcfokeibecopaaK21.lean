/-
  THE REFERENCE's Sort (chapter 5): the walk.
-/
import Derived.Test.YtmcfokeibecopaaK20
import Derived.Deep.CutBlock
import Derived.Deep.CutRange
namespace Go.Proofs.Ytmcfokeibecopaa
open Go.RowKit
open Od

set_option maxRecDepth 100000 in
theorem Part.none (W : World) (V : Nat → TR) : Part W none 0 V := ⟨fun h => absurd h (by omega), fun _ => rfl, fun a e => by cases e⟩

set_option maxRecDepth 100000 in
set_option maxRecDepth 100000 in
set_option maxHeartbeats 8000000 in
theorem refSort_any (w : World) (B : Option Addr) (m c : Nat) (ts : List Tm) (hts : TVs w B m c ts) (hok : ∀ t ∈ ts, t.Ok) (hm : m ≤ 1000) :
    Calls Try.prog 13 #[.slice B m c] w fun e w' => ∃ (us : List Tm) (B' : Option Addr) (m' d' : Nat), e = .returned (.slice B' m' d') ∧ TVs w' B' m' d' us ∧ Below w.heap.size w w' ∧ Hid (SrtOf ts us) := by
  have hlen := hts.len
  have HT := Lib.hid hts
  have HO := Lib.hid hok
  clear hts hok
  go_enter Try.func13, Try.ntmps13
  go_wp2_with fail
  go_loopw [3, 4] (fun x i w' => ∃ (j : Nat) (B' : Option Addr) (d' : Nat) (us : List Tm) (V : Nat → TR), j ≤ m ∧ i = .int .i64 (j : Int) ∧ x = .slice B' j d' ∧ Hid (∀ (x : Nat) (t : Tm), x < j → ts[x]? = some t → t.mayB = true) ∧ RsI w ts B' j d' us V w') (fun _ i _ => m - (intOf i).toNat)
  case atStart => exact ⟨0, none, 0, [], fun _ => default, Nat.zero_le _, rfl, rfl, Lib.hid (fun x t h => absurd h (by omega)), ⟨Below.refl _ _, RowV.nil _ _ _, fun i t e => by simp at e, rfl, List.Pairwise.nil, by simp⟩⟩
  case round =>
    obtain ⟨j, B', d', us, V, hj, rfl, rfl, hall, J⟩ := hrel
    by_cases hjm : j < m
    · have hd1 : decide ((j : Int) < (m : Int)) = true := decide_eq_true (by omega)
      obtain ⟨b1, o1, r, t, e, hlt, h7w, het, htvw⟩ := HT.out.get j hjm
      subst e
      have hmem := List.mem_of_getElem? het
      have h7 := h7w.below J.be hlt
      have y0 := h7.c0; have y1 := h7.c1; have y2 := h7.c2; have y3 := h7.c3; have y4 := h7.c4; have y5 := h7.c5; have y6 := h7.c6
      go_wp2_with fail
      refine (refMayT_any wr r t (htvw.bel J.be) (HO.out t hmem)).mono ?_
      cases hmt : t.mayB with
      | false =>
        have hno := Lib.hid (show SrtOf ts [] from ⟨fun h => absurd (h t hmem) (by rw [hmt]; decide), fun _ => rfl⟩)
        rintro _ v ⟨rfl, hv⟩
        have J2 := J.below hv
        clear y0 y1 y2 y3 y4 y5 y6 h7 J
        go_wp2
        go_ret
        exact ⟨[], none, 0, 0, rfl, TVs.nil _ _ _ (Nat.zero_le _), J2.be, hno⟩
      | true =>
        rintro _ v ⟨rfl, hv⟩
        have J2 := J.below hv
        clear y0 y1 y2 y3 y4 y5 y6 h7 J hv
        have hst := Lib.hid (show ∀ (x : Nat) (t : Tm), x < j + 1 → ts[x]? = some t → t.mayB = true from fun x t' h1 h2 => by
          by_cases e : x = j
          · subst e
            rw [het] at h2
            cases h2
            exact hmt
          · exact hall.out x t' (by omega) h2)
        have humay := Lib.hid (show ∀ x ∈ us, x.mayB = true from fun x hx => by
          have hx' := J2.perm.mem_iff.1 hx
          obtain ⟨y, hy⟩ := List.getElem?_of_mem hx'
          have hyl := (List.getElem?_eq_some_iff.1 hy).1
          rw [List.length_take] at hyl
          rw [List.getElem?_take_of_lt (by omega)] at hy
          exact hall.out y x (by omega) hy)
        have huok := Lib.hid (show ∀ x ∈ us, x.Ok from fun x hx => HO.out x (List.mem_of_mem_take (J2.perm.mem_iff.1 hx)))
        clear hall
        go_upto_block 2 with fail
        go_cut [5] from 6 to 49 (fun x wx => ∃ k : Nat, k ≤ j ∧ x = .int .i64 (k : Int) ∧ Hid (PutAt t us k) ∧ RsI w ts B' j d' us V wx)
        case first =>
          go_wp2_with fail
          go_loopw [5] (fun x w' => ∃ k : Nat, k ≤ j ∧ x = .int .i64 (k : Int) ∧ Hid (∀ x ∈ us.drop k, Tm.cmpT t x < 0) ∧ RsI w ts B' j d' us V w') (fun x _ => (intOf x).toNat)
          case atStart => exact ⟨j, Nat.le_refl _, rfl, Lib.hid (fun x hx => by rw [List.drop_eq_nil_of_le (by rw [J2.len]; omega)] at hx; cases hx), J2⟩
          case round =>
            clear J2
            obtain ⟨k, hk, rfl, hab, J⟩ := hrel
            have h7 := h7w.below J.be hlt
            by_cases hk0 : 0 < k
            · have hd2 : decide ((0 : Int) < (k : Int)) = true := decide_eq_true (by omega)
              obtain ⟨b2, o2, eB, hlt2, hat⟩ := J.row.spread (by omega)
              have p7 := hat (k - 1) (by omega)
              obtain ⟨u, hu⟩ : ∃ u, us[k - 1]? = some u := ⟨_, List.getElem?_eq_getElem (by rw [J.len]; omega)⟩
              have humem := List.mem_of_getElem? hu
              have pv := (J.tv (k - 1) u hu).bel J.be.drew
              obtain ⟨rp, hrp⟩ : ∃ rp, rp = V (k - 1) := ⟨_, rfl⟩
              rw [← hrp] at p7 pv
              clear hrp
              have tv' := htvw.bel J.be.drew
              subst eB
              have y0 := h7.c0; have y1 := h7.c1; have y2 := h7.c2; have y3 := h7.c3; have y4 := h7.c4; have y5 := h7.c5; have y6 := h7.c6; have x0 := p7.c0; have x1 := p7.c1; have x2 := p7.c2; have x3 := p7.c3; have x4 := p7.c4; have x5 := p7.c5; have x6 := p7.c6
              have e1 : IntKind.i64.wrap ((k : Int) - 1) = ((k - 1 : Nat) : Int) := by rw [IntWalk.i64_in _ (by omega)]; omega
              have e2 : ((k - 1 : Nat) : Int) < (j : Int) := by omega
              have e3 : (j : Int) < (m : Int) := by omega
              have HJ := Lib.hid J.drew
              have T7 := Lib.hid (h7.below (Below.refl _ _).drew (Nat.lt_of_lt_of_le hlt J.be.size))
              have P7 := Lib.hid (p7.below (Below.refl _ _).drew hlt2)
              have PV := Lib.hid pv
              have TV' := Lib.hid tv'
              have hl1 : b1 < wr.heap.size := Nat.lt_of_lt_of_le hlt J.be.size
              obtain ⟨q, hq⟩ : ∃ q, q = decide (Tm.ordB t u < 0) := ⟨_, rfl⟩
              have HQ := Lib.hid hq
              clear hq J h7 p7 hat pv tv'
              go_wp2_with fail
              go_region_held3 (fun w' => w'.cell? ⟨b1, o1 + j * 7, none⟩ = some (.int .i64 r.k) ∧ w'.cell? ⟨b1, o1 + j * 7 + 1, none⟩ = some (.int .i64 r.n) ∧ w'.cell? ⟨b1, o1 + j * 7 + 2, none⟩ = some (.bool r.g) ∧ w'.cell? ⟨b1, o1 + j * 7 + 3, none⟩ = some (.slice r.A r.ln r.lc) ∧ w'.cell? ⟨b1, o1 + j * 7 + 4, none⟩ = some (.int .u64 r.u) ∧ w'.cell? ⟨b1, o1 + j * 7 + 5, none⟩ = some (.string r.s) ∧ w'.cell? ⟨b1, o1 + j * 7 + 6, none⟩ = some (.slice r.B r.m r.d) ∧ w'.cell? ⟨b2, o2 + (k - 1) * 7, none⟩ = some (.int .i64 rp.k) ∧ w'.cell? ⟨b2, o2 + (k - 1) * 7 + 1, none⟩ = some (.int .i64 rp.n) ∧ w'.cell? ⟨b2, o2 + (k - 1) * 7 + 2, none⟩ = some (.bool rp.g) ∧ w'.cell? ⟨b2, o2 + (k - 1) * 7 + 3, none⟩ = some (.slice rp.A rp.ln rp.lc) ∧ w'.cell? ⟨b2, o2 + (k - 1) * 7 + 4, none⟩ = some (.int .u64 rp.u) ∧ w'.cell? ⟨b2, o2 + (k - 1) * 7 + 5, none⟩ = some (.string rp.s) ∧ w'.cell? ⟨b2, o2 + (k - 1) * 7 + 6, none⟩ = some (.slice rp.B rp.m rp.d))
                (first | exact ⟨y0, y1, y2, y3, y4, y5, y6, x0, x1, x2, x3, x4, x5, x6⟩ | exact KS.out)
                (first
                  | (go_at_call 11; refine (refLessT_any wr.drew r t (by exact TV'.out) (HO.out t hmem) rp u (by exact PV.out) (huok.out u humem)).mono ?_; rw [← HQ.out]; rintro e v2 ⟨rfl, hv⟩; have KS := Lib.hid (twoS (W := wr.drew) hv T7.out hl1 P7.out hlt2); have H2 := Lib.hid (HJ.out.below hv); clear hv))
              clear y0 y1 y2 y3 y4 y5 y6 x0 x1 x2 x3 x4 x5 x6 KS T7 P7 PV TV' HJ e1 e2 e3
              have hord : Tm.ordB t u = Tm.cmpT t u := ordB_may hmt (humay.out u humem)
              cases q with
              | true =>
                have hlt0 : Tm.cmpT t u < 0 := by rw [← hord]; exact of_decide_eq_true HQ.out.symm
                have hab2 := Lib.hid (show ∀ x ∈ us.drop (k - 1), Tm.cmpT t x < 0 from fun x hx => by
                  have hdrop : us.drop (k - 1) = u :: us.drop k := by
                    obtain ⟨hl, he⟩ := List.getElem?_eq_some_iff.1 hu
                    rw [List.drop_eq_getElem_cons hl, he, show k - 1 + 1 = k by omega]
                  rw [hdrop] at hx
                  rcases List.mem_cons.1 hx with e | hx
                  · rw [e]; exact hlt0
                  · exact hab.out x hx)
                go_wp2_with fail
                exact ⟨⟨k - 1, by omega, by go_num, hab2, H2.out⟩, by simp [intOf]; omega⟩
              | false =>
                have hPA := Lib.hid (show PutAt t us k from ⟨by rw [H2.out.len]; exact hk, hab.out, fun x hx _ => by
                  rw [hu] at hx
                  cases hx
                  rw [← hord]
                  exact of_decide_eq_false HQ.out.symm⟩)
                have HH := H2.out
                go_wp2_with fail
                go_meet
                exact ⟨k, hk, rfl, hPA, by first | exact HH | exact HH.drew⟩
            · have hd2 : decide ((0 : Int) < (k : Int)) = false := decide_eq_false (by omega)
              have hk0' : k = 0 := by omega
              have hPA := Lib.hid (show PutAt t us k from ⟨by omega, hab.out, fun x hx h0 => by omega⟩)
              have HH := Lib.hid J
              clear J h7
              subst hk0'
              go_wp2_with fail
              go_quiet (fail)
              go_wp2
              go_meet
              exact ⟨0, hk, rfl, hPA, by first | exact HH.out | exact HH.out.drew | exact HH.out.below ((Below.refl _ _).drewN' _)⟩
        case rest =>
          clear J2
          obtain ⟨k, hk, rfl, hPA, J⟩ := hcut
          have i2 : (j : Int) < (m : Int) := by omega
          have i3 : (j : Int) ≤ (d' : Int) := by have := J.row.md; omega
          have hjr := J.drew
          rcases J.row.form with ⟨h0, h1, h2⟩ | ⟨g, eg, hg1, hg2⟩
          · subst h0 h1 h2
            obtain rfl : k = 0 := by omega
            have P1 : Part wc.drew none 0 V := Part.none _ _
            have P2 : Part wc.drew none (0 - 0) (fun i => V (0 + i)) := Part.none _ _
            have i5 : (0 : Int) < (m : Int) := by omega
            obtain ⟨B1, d1, W1, B2, d2, W2, B3, d3, W3, e1, e2, e3, R3, hb1⟩ := ins_one w ts _ 0 0 us V wc.drew hjr t r htvw het 0 hPA.out none none 0 0 P1 P2 (by omega) 26
            obtain ⟨C1, f1, X1, C2, f2, X2, C3, f3, X3, g1, g2, g3, R4⟩ := ins_two w ts _ 0 0 us V wc.drew hjr t r htvw het 0 hPA.out none none 0 0 P1 P2 (by omega) 26
            rw [Nat.sub_self] at e3 g3
            have E1 := Lib.hid e1; have E2 := Lib.hid e2; have E3 := Lib.hid e3
            have G1 := Lib.hid (show (Builtin.append_ #[26, 26] 26 #[.slice none 0 0, .slice none 0 0]).run Try.prog ((wc.alloc (.cells #[.int .i64 r.k, .int .i64 r.n, .bool r.g, .slice r.A r.ln r.lc, .int .u64 r.u, .string r.s, .slice r.B r.m r.d] 28)).drew) = .ok (.slice C1 0 f1) X1 from g1)
            have G2 := Lib.hid (show (Builtin.append_ #[26, 26] 26 #[.slice C1 0 f1, .slice (some ⟨wc.heap.size, 0, none⟩) 1 1]).run Try.prog X1 = .ok (.slice C2 (0 + 1) f2) X2 from g2)
            have G3 := Lib.hid g3
            have RR3 := Lib.hid R3; have RR4 := Lib.hid R4
            obtain ⟨y0, y1, y2, y3, y4, y5, y6⟩ := seven' (h7w.below hjr.be hlt)
            obtain ⟨z0, z1, z2, z3, z4, z5, z6⟩ := seven' ((h7w.below hjr.be hlt).below hb1 (Nat.lt_of_lt_of_le hlt hjr.be.size))
            simp only [Nat.zero_mul, Nat.add_zero] at y0 y1 y2 y3 y4 y5 y6 z0 z1 z2 z3 z4 z5 z6
            clear e1 e2 e3 g1 g2 g3 R3 R4 P1 P2 hb1 hjr J
            go_wp2_with fail
            go_region_law (first | (have H := E1.out; (with_reducible refine step_app (by with_unfolding_all rfl) _ _ 26 (by with_unfolding_all rfl) (.slice none 0 0) (.slice none 0 0) (.slice B1 0 d1) (by go_simp) (by go_simp) H ?_); clear H E1 G1 G2 G3 RR4) | (have H := G1.out; (with_reducible refine step_app (by with_unfolding_all rfl) _ _ 26 (by with_unfolding_all rfl) (.slice none 0 0) (.slice none 0 0) (.slice C1 0 f1) (by go_simp) (by go_simp) H ?_); clear H E1 E2 E3 G1 RR3) | (have H := E2.out; (with_reducible refine step_app (by with_unfolding_all rfl) _ _ 26 (by with_unfolding_all rfl) (.slice B1 0 d1) (.slice (some ⟨W1.heap.size, 0, none⟩) 1 1) (.slice B2 (0 + 1) d2) (by go_simp) (by go_simp) H ?_); clear H E2) | (have H := G2.out; (with_reducible refine step_app (by with_unfolding_all rfl) _ _ 26 (by with_unfolding_all rfl) (.slice C1 0 f1) (.slice (some ⟨wc.heap.size, 0, none⟩) 1 1) (.slice C2 (0 + 1) f2) (by go_simp) (by go_simp) H ?_); clear H G2) | (have H := E3.out; (with_reducible refine step_app (by with_unfolding_all rfl) _ _ 26 (by with_unfolding_all rfl) (.slice B2 (0 + 1) d2) (.slice none 0 0) (.slice B3 (0 + 1) d3) (by go_simp) (by go_simp) H ?_); clear H E3) | (have H := G3.out; (with_reducible refine step_app (by with_unfolding_all rfl) _ _ 26 (by with_unfolding_all rfl) (.slice C2 (0 + 1) f2) (.slice none 0 0) (.slice C3 (0 + 1) f3) (by go_simp) (by go_simp) H ?_); clear H G3))
            all_goals go_wp2_with fail
            all_goals first
              | exact ⟨⟨0 + 1, _, _, _, _, by omega, by go_num, rfl, hst, RR3.out⟩, by simp [intOf]; omega⟩
              | exact ⟨⟨0 + 1, _, _, _, _, by omega, by go_num, rfl, hst, RR4.out⟩, by simp [intOf]; omega⟩
          · subst eg
            have i1 : (k : Int) ≤ (j : Int) := by omega
            have i4 : (k : Int) ≤ (d' : Int) := by omega
            obtain ⟨P1, P2⟩ := hjr.row.parts hk
            by_cases hdk : d' = k
            · subst hdk
              have hjk : j = d' := by omega
              replace P2 : Part wc.drew (some ⟨g, 0, none⟩) (j - d') (fun i => V (d' + i)) := ⟨fun h => absurd h (by omega), (fun h => by cases h), (fun a e => by cases e; rfl)⟩
              clear hjk
              obtain ⟨B1, d1, W1, B2, d2, W2, B3, d3, W3, e1, e2, e3, R3, hb1⟩ := ins_one w ts _ j d' us V wc.drew hjr t r htvw het d' hPA.out (some ⟨g, 0, none⟩) (some ⟨g, 0, none⟩) d' (d' - d') P1 P2 (by omega) 26
              obtain ⟨C1, f1, X1, C2, f2, X2, C3, f3, X3, g1, g2, g3, R4⟩ := ins_two w ts _ j d' us V wc.drew hjr t r htvw het d' hPA.out (some ⟨g, 0, none⟩) (some ⟨g, 0, none⟩) d' (d' - d') P1 P2 (by omega) 26
              have E1 := Lib.hid e1; have E2 := Lib.hid e2; have E3 := Lib.hid e3
              have G1 := Lib.hid (show (Builtin.append_ #[26, 26] 26 #[.slice none 0 0, .slice (some ⟨g, 0, none⟩) d' d']).run Try.prog ((wc.alloc (.cells #[.int .i64 r.k, .int .i64 r.n, .bool r.g, .slice r.A r.ln r.lc, .int .u64 r.u, .string r.s, .slice r.B r.m r.d] 28)).drew) = .ok (.slice C1 d' f1) X1 from g1)
              have G2 := Lib.hid (show (Builtin.append_ #[26, 26] 26 #[.slice C1 d' f1, .slice (some ⟨wc.heap.size, 0, none⟩) 1 1]).run Try.prog X1 = .ok (.slice C2 (d' + 1) f2) X2 from g2)
              have G3 := Lib.hid g3
              have RR3 := Lib.hid R3; have RR4 := Lib.hid R4
              obtain ⟨y0, y1, y2, y3, y4, y5, y6⟩ := seven' (h7w.below hjr.be hlt)
              obtain ⟨z0, z1, z2, z3, z4, z5, z6⟩ := seven' ((h7w.below hjr.be hlt).below hb1 (Nat.lt_of_lt_of_le hlt hjr.be.size))
              clear e1 e2 e3 g1 g2 g3 R3 R4 P1 P2 hb1 hjr J
              go_wp2_with fail
              go_region_law (first | (have H := E1.out; (with_reducible refine step_app (by with_unfolding_all rfl) _ _ 26 (by with_unfolding_all rfl) (.slice none 0 0) (.slice (some ⟨g, 0, none⟩) d' d') (.slice B1 d' d1) (by go_simp) (by go_simp) H ?_); clear H E1 G1 G2 G3 RR4) | (have H := G1.out; (with_reducible refine step_app (by with_unfolding_all rfl) _ _ 26 (by with_unfolding_all rfl) (.slice none 0 0) (.slice (some ⟨g, 0, none⟩) d' d') (.slice C1 d' f1) (by go_simp) (by go_simp) H ?_); clear H E1 E2 E3 G1 RR3) | (have H := E2.out; (with_reducible refine step_app (by with_unfolding_all rfl) _ _ 26 (by with_unfolding_all rfl) (.slice B1 d' d1) (.slice (some ⟨W1.heap.size, 0, none⟩) 1 1) (.slice B2 (d' + 1) d2) (by go_simp) (by go_simp) H ?_); clear H E2) | (have H := G2.out; (with_reducible refine step_app (by with_unfolding_all rfl) _ _ 26 (by with_unfolding_all rfl) (.slice C1 d' f1) (.slice (some ⟨wc.heap.size, 0, none⟩) 1 1) (.slice C2 (d' + 1) f2) (by go_simp) (by go_simp) H ?_); clear H G2) | (have H := E3.out; (with_reducible refine step_app (by with_unfolding_all rfl) _ _ 26 (by with_unfolding_all rfl) (.slice B2 (d' + 1) d2) (.slice (some ⟨g, 0, none⟩) (j - d') (d' - d')) (.slice B3 (j + 1) d3) (by go_simp) (by go_simp) H ?_); clear H E3) | (have H := G3.out; (with_reducible refine step_app (by with_unfolding_all rfl) _ _ 26 (by with_unfolding_all rfl) (.slice C2 (d' + 1) f2) (.slice (some ⟨g, 0, none⟩) (j - d') (d' - d')) (.slice C3 (j + 1) f3) (by go_simp) (by go_simp) H ?_); clear H G3))
              all_goals go_wp2_with fail
              all_goals first
                | exact ⟨⟨j + 1, _, _, _, _, by omega, by go_num, rfl, hst, RR3.out⟩, by simp [intOf]; omega⟩
                | exact ⟨⟨j + 1, _, _, _, _, by omega, by go_num, rfl, hst, RR4.out⟩, by simp [intOf]; omega⟩
            · have hdk' : (d' = k) = False := by simp [hdk]
              obtain ⟨B1, d1, W1, B2, d2, W2, B3, d3, W3, e1, e2, e3, R3, hb1⟩ := ins_one w ts _ j d' us V wc.drew hjr t r htvw het k hPA.out (some ⟨g, 0, none⟩) (some ⟨g, k * 7, none⟩) d' (d' - k) P1 P2 (by omega) 26
              obtain ⟨C1, f1, X1, C2, f2, X2, C3, f3, X3, g1, g2, g3, R4⟩ := ins_two w ts _ j d' us V wc.drew hjr t r htvw het k hPA.out (some ⟨g, 0, none⟩) (some ⟨g, k * 7, none⟩) d' (d' - k) P1 P2 (by omega) 26
              have E1 := Lib.hid e1; have E2 := Lib.hid e2; have E3 := Lib.hid e3
              have G1 := Lib.hid (show (Builtin.append_ #[26, 26] 26 #[.slice none 0 0, .slice (some ⟨g, 0, none⟩) k d']).run Try.prog ((wc.alloc (.cells #[.int .i64 r.k, .int .i64 r.n, .bool r.g, .slice r.A r.ln r.lc, .int .u64 r.u, .string r.s, .slice r.B r.m r.d] 28)).drew) = .ok (.slice C1 k f1) X1 from g1)
              have G2 := Lib.hid (show (Builtin.append_ #[26, 26] 26 #[.slice C1 k f1, .slice (some ⟨wc.heap.size, 0, none⟩) 1 1]).run Try.prog X1 = .ok (.slice C2 (k + 1) f2) X2 from g2)
              have G3 := Lib.hid g3
              have RR3 := Lib.hid R3; have RR4 := Lib.hid R4
              obtain ⟨y0, y1, y2, y3, y4, y5, y6⟩ := seven' (h7w.below hjr.be hlt)
              obtain ⟨z0, z1, z2, z3, z4, z5, z6⟩ := seven' ((h7w.below hjr.be hlt).below hb1 (Nat.lt_of_lt_of_le hlt hjr.be.size))
              clear e1 e2 e3 g1 g2 g3 R3 R4 P1 P2 hb1 hjr J
              go_wp2_with fail
              go_region_law (first | (have H := E1.out; (with_reducible refine step_app (by with_unfolding_all rfl) _ _ 26 (by with_unfolding_all rfl) (.slice none 0 0) (.slice (some ⟨g, 0, none⟩) k d') (.slice B1 k d1) (by go_simp) (by go_simp) H ?_); clear H E1 G1 G2 G3 RR4) | (have H := G1.out; (with_reducible refine step_app (by with_unfolding_all rfl) _ _ 26 (by with_unfolding_all rfl) (.slice none 0 0) (.slice (some ⟨g, 0, none⟩) k d') (.slice C1 k f1) (by go_simp) (by go_simp) H ?_); clear H E1 E2 E3 G1 RR3) | (have H := E2.out; (with_reducible refine step_app (by with_unfolding_all rfl) _ _ 26 (by with_unfolding_all rfl) (.slice B1 k d1) (.slice (some ⟨W1.heap.size, 0, none⟩) 1 1) (.slice B2 (k + 1) d2) (by go_simp) (by go_simp) H ?_); clear H E2) | (have H := G2.out; (with_reducible refine step_app (by with_unfolding_all rfl) _ _ 26 (by with_unfolding_all rfl) (.slice C1 k f1) (.slice (some ⟨wc.heap.size, 0, none⟩) 1 1) (.slice C2 (k + 1) f2) (by go_simp) (by go_simp) H ?_); clear H G2) | (have H := E3.out; (with_reducible refine step_app (by with_unfolding_all rfl) _ _ 26 (by with_unfolding_all rfl) (.slice B2 (k + 1) d2) (.slice (some ⟨g, k * 7, none⟩) (j - k) (d' - k)) (.slice B3 (j + 1) d3) (by go_simp) (by go_simp) H ?_); clear H E3) | (have H := G3.out; (with_reducible refine step_app (by with_unfolding_all rfl) _ _ 26 (by with_unfolding_all rfl) (.slice C2 (k + 1) f2) (.slice (some ⟨g, k * 7, none⟩) (j - k) (d' - k)) (.slice C3 (j + 1) f3) (by go_simp) (by go_simp) H ?_); clear H G3))
              all_goals go_wp2_with fail
              all_goals first
                | exact ⟨⟨j + 1, _, _, _, _, by omega, by go_num, rfl, hst, RR3.out⟩, by simp [intOf]; omega⟩
                | exact ⟨⟨j + 1, _, _, _, _, by omega, by go_num, rfl, hst, RR4.out⟩, by simp [intOf]; omega⟩
    · have hd1 : decide ((j : Int) < (m : Int)) = false := decide_eq_false (by omega)
      have e : j = m := by omega
      subst e
      have hperm : us.Perm ts := by
        have := J.perm
        rwa [List.take_of_length_le (by omega)] at this
      have hmay : ∀ t ∈ ts, t.mayB = true := fun t ht => by
        obtain ⟨x, hx⟩ := List.getElem?_of_mem ht
        exact hall.out x t (by have := (List.getElem?_eq_some_iff.1 hx).1; omega) hx
      have hs := Lib.hid (show SrtOf ts us from ⟨fun _ => ⟨hperm, J.rise⟩, fun hn => absurd hmay hn⟩)
      have hmd := J.row.md
      have ht : TVs wr B' j d' us := ⟨J.len, hmd.1, hmd.2, V, J.row.spread, fun i t e => (J.tv i t e).bel J.be⟩
      have hbe := J.be
      clear J hall hperm hmay
      go_wp2_with fail
      go_ret
      exact ⟨us, B', j, d', rfl, by first | exact ht | exact ht.drew, hbe, hs⟩
end Go.Proofs.Ytmcfokeibecopaa
