/-
  THE LAW LookMoves: its walk.
-/
import Derived.Test.YtejmmjedognaaaaGreatMv42
namespace Go.Proofs.YtejmmjedognaaaaGreat
open Go.RowKit Go.Shelf
open St

set_option maxRecDepth 100000 in
set_option maxRecDepth 100000 in
set_option maxHeartbeats 8000000 in
theorem lookMoves_walk {w : World} {r : DR} {d : Dmp} (h : DV w r d) (b0 : Int) :
    Calls Tryz.prog 5 #[r.val, .int .i64 b0] w fun e w' => e = .returned (.bool true) ∧ Below w.heap.size w w' := by
  obtain ⟨⟨ya, yA, yn, yc⟩, ⟨oa, oA, on, oc⟩, ds, dm, F, fm, fc, R, rm, rc, H, hm, hc, rs⟩ := r
  unfold DR.val
  simp only
  obtain ⟨wa, hwa⟩ : ∃ wa, wa = w.alloc (.cells #[.int .i64 ya, .slice yA yn yc, .int .i64 oa, .slice oA on oc, .int .i64 ds, .int .i64 dm, .slice F fm fc, .slice R rm rc, .slice H hm hc] 28) := ⟨_, rfl⟩
  have hba : Below w.heap.size w wa := by rw [hwa]; exact (Below.refl _ w).alloc (Nat.le_refl _) _
  obtain ⟨r, hr⟩ : ∃ r : DR, r = ⟨⟨ya, yA, yn, yc⟩, ⟨oa, oA, on, oc⟩, ds, dm, F, fm, fc, R, rm, rc, H, hm, hc, rs⟩ := ⟨_, rfl⟩
  have bk : Bx wa w.heap.size r := ⟨by rw [hwa, hr]; exact heap_alloc_new w _⟩
  have hQ : ∀ w', Below wa.heap.size wa w' → w'.cell? ⟨w.heap.size, 0, none⟩ = some (.int .i64 ya) ∧ w'.cell? ⟨w.heap.size, 1, none⟩ = some (.slice yA yn yc) ∧ w'.cell? ⟨w.heap.size, 2, none⟩ = some (.int .i64 oa) ∧ w'.cell? ⟨w.heap.size, 3, none⟩ = some (.slice oA on oc) ∧ w'.cell? ⟨w.heap.size, 4, none⟩ = some (.int .i64 ds) ∧ w'.cell? ⟨w.heap.size, 5, none⟩ = some (.int .i64 dm) ∧ w'.cell? ⟨w.heap.size, 6, none⟩ = some (.slice F fm fc) ∧ w'.cell? ⟨w.heap.size, 7, none⟩ = some (.slice R rm rc) ∧ w'.cell? ⟨w.heap.size, 8, none⟩ = some (.slice H hm hc) := fun w' hb => by
    have hx := bk.below hb bk.lt
    subst hr
    exact ⟨hx.c0, hx.c1, hx.c2, hx.c3, hx.c4, hx.c5, hx.c6, hx.c7, hx.c8⟩
  rw [← hr] at h
  have hon : on ≤ 9223372036854775807 := by have q := Nat.le_trans h.o.ws.nc h.o.ws.cm; subst hr; exact q
  have hfm9 : fm ≤ 9223372036854775807 := by have q := Nat.le_trans h.fs.mc h.fs.cm; subst hr; exact q
  have hhm9 : hm ≤ 9223372036854775807 := by have q := Nat.le_trans h.hs.nc h.hs.cm; subst hr; exact q
  have hyw : -9223372036854775808 ≤ ya ∧ ya ≤ 9223372036854775807 := by
    have q := wf_i64 h.y.wf
    rw [← h.y.at_] at q
    subst hr
    exact q
  have HD : Hid (∀ w', Below wa.heap.size wa w' → DV w' r d) := Lib.hid (fun w' hb => (h.below hba).below hb)
  have HE : Hid (∀ w', Below wa.heap.size wa w' → Below w.heap.size w w') := Lib.hid (fun w' hb => hba.trans (hb.mono hba.size))
  have HG : Hid (∀ w', Below wa.heap.size wa w' → Calls Tryz.prog 6 #[.agg #[.int .i64 ya, .slice yA yn yc, .int .i64 oa, .slice oA on oc, .int .i64 ds, .int .i64 dm, .slice F fm fc, .slice R rm rc, .slice H hm hc], .int .i64 60] w' fun e w2 => GrP (Sm r) e ∧ Below w'.heap.size w' w2) := Lib.hid (fun w' hb => by
    have q := greatDump_any (HD.out w' hb)
    subst hr
    exact q)
  obtain ⟨wy, hwy⟩ : ∃ wy, wy = whyO (d.y :: d.o :: d.fs) [] d := ⟨_, rfl⟩
  have HW : Hid (∀ w', Below wa.heap.size wa w' → Sm r → Calls Tryz.prog 12 #[.agg #[.int .i64 ya, .slice yA yn yc, .int .i64 oa, .slice oA on oc, .int .i64 ds, .int .i64 dm, .slice F fm fc, .slice R rm rc, .slice H hm hc], .slice none 0 0] w' fun e w2 => e = .returned (.string wy) ∧ Below w'.heap.size w' w2) := Lib.hid (fun w' hb hs => by
    have q := (asked (HD.out w' hb) hs (sls_nil w') (by omega) (HD.out w' hb).roots (by have := hs.rm; omega)).2.1
    rw [hwy]
    subst hr
    exact q)
  have HQ := Lib.hid hQ
  have HEL := Lib.hid bk.lt
  have hk : Hid (Below wa.heap.size wa wa) := Lib.hid (Below.refl _ _)
  obtain ⟨q0, q1, q2, q3, q4, q5, q6, q7, q8⟩ := hQ wa (Below.refl _ _)
  replace hwy := Lib.hid hwy
  replace hr := Lib.hid hr
  have HDV := Lib.hid h
  have hs9 : Hid (wa.heap.size = wa.heap.size) := Lib.hid rfl
  clear bk hba hQ h
  by_cases hc : on = 0
  · subst hc
    by_cases hc : fm = 0
    · subst hc
      by_cases hc : hm = 0
      · subst hc
        by_cases hc : wy = ⟨#[]⟩
        · subst hc
          by_cases hc : 0 ≤ ya
          · have d5 : decide (ya < 0) = false := decide_eq_false (by omega)
            have hc4 := Lib.hid hc
            clear hc
            by_cases hc : ya ≤ 1099511627776
            · have d6 : decide (1099511627776 < ya) = false := decide_eq_false (by omega)
              have hc5 := Lib.hid hc
              clear hc
              have h0 := HDV.out
              rw [hr.out] at h0
              obtain ⟨ws, rts, hdd, h1, ho9, hf9, hh9, wfy, wfo, wfd, wfm, hwl, hrl, hwd, hrd⟩ := m_form h0
              subst hdd
              have hW0 : Hid (whyO (mgs ya oa ws) [] (mD ya oa ds dm ws rts) = ⟨#[]⟩) := Lib.hid hwy.out.symm
              have HDm : Hid (∀ w', Below wa.heap.size wa w' → DV w' (mR ya yA yn yc oa oA oc ds dm F fc R rm rc H hc) (mD ya oa ds dm ws rts)) := Lib.hid (fun w' hb => h1.below (HE.out w' hb))
              have HA : Hid (0 < yn → ∃ b o, yA = some ⟨b, o, none⟩) := Lib.hid (fun h0 => by
                obtain ⟨b, o, e, _⟩ := h1.y.ws.some h0
                exact ⟨b, o, e⟩)
              have HAR : Hid (0 < rm → ∃ b o, R = some ⟨b, o, none⟩) := Lib.hid (fun h0 => by
                obtain ⟨b, o, e, _⟩ := h1.roots.some h0
                exact ⟨b, o, e⟩)
              have HZ : Hid (∀ w', Below wa.heap.size wa w' → Zs .u64 w' yA yn yc ws) := Lib.hid (fun w' hb => (HDm.out w' hb).y.ws)
              have HZR : Hid (∀ w', Below wa.heap.size wa w' → Zs .u64 w' R rm rc rts) := Lib.hid (fun w' hb => (HDm.out w' hb).roots)
              clear h0 h1
              replace hwl := Lib.hid hwl
              replace hrl := Lib.hid hrl
              replace hwd := Lib.hid hwd
              replace hrd := Lib.hid hrd
              replace ho9 := Lib.hid ho9
              replace hf9 := Lib.hid hf9
              replace hh9 := Lib.hid hh9
              replace wfy := Lib.hid wfy
              replace wfo := Lib.hid wfo
              replace wfd := Lib.hid wfd
              replace wfm := Lib.hid wfm
              go_enter Tryz.func5, Tryz.ntmps5
              go_upto_region 1 with fail
              rw [← hwa]
              clear hwa
              go_upto_region 3 with (first
                      | (go_at_call 6; (with_reducible refine (HG.out _ hk.out).mono ?_); rintro e w1 ⟨⟨g1, rfl, hg1⟩, hb1⟩; replace hk := Lib.hid (hk.out.trans (hb1.mono hk.out.size)); clear hb1; clear q0 q1 q2 q3 q4 q5 q6 q7 q8; obtain ⟨q0, q1, q2, q3, q4, q5, q6, q7, q8⟩ := HQ.out _ hk.out; replace hg1 := Lib.hid hg1; (cases g1))
                      | (go_at_call 8; (with_reducible refine (awake12_any _).mono ?_); rintro e w9 ⟨rfl, hb9⟩; replace hk := Lib.hid (hk.out.trans (hb9.mono hk.out.size)); clear hb9)
                      | (go_at_call 12; have HW3 := HW.out _ hk.out (hg1.out (by first | rfl | exact trivial)); (with_reducible refine HW3.mono ?_); clear HW3; rintro e w3 ⟨rfl, hb3⟩; replace hk := Lib.hid (hk.out.trans (hb3.mono hk.out.size)); clear hb3; clear q0 q1 q2 q3 q4 q5 q6 q7 q8; obtain ⟨q0, q1, q2, q3, q4, q5, q6, q7, q8⟩ := HQ.out _ hk.out))
              · have hs1 := Lib.hid (hg1.out (by first | rfl | exact trivial))
                have hyn : yn ≤ 60 := by have q := hs1.out.y; rw [hr.out] at q; exact q
                have hrm : rm ≤ 100 := by have q := hs1.out.rm; rw [hr.out] at q; exact q
                obtain ⟨b, hb, hlow⟩ := low_int b0 1000 (by omega) (by omega)
                have hbb : Hid (0 ≤ (b : Int) ∧ (b : Int) ≤ 1000) := Lib.hid (by omega)
                have HL := Lib.hid hlow
                have HYN := Lib.hid hyn
                have HRM := Lib.hid hrm
                have HCp := Lib.hid (fun w' (hb : Below wa.heap.size wa w') => mc_copy (HDm.out w' hb) hyn hrm)
                clear hlow hg1 HW HG HD HDV hs1
                go_upto_region 4 with (go_at_call 22; (with_reducible refine (HL.out _).mono ?_); rintro e w9 ⟨rfl, rfl⟩)
                go_upto_region 5 with (go_at_call 9; (with_reducible refine (HCp.out _ hk.out).mono ?_); rintro e w4 ⟨⟨eA, en, ec, fA, xc, xF, xfc, xR, xrm, xrc, xH, xhc, rfl, hx1, hx2, hx3⟩, hb4⟩; replace hk := Lib.hid (hk.out.trans (hb4.mono hk.out.size)); clear hb4; clear q0 q1 q2 q3 q4 q5 q6 q7 q8; obtain ⟨q0, q1, q2, q3, q4, q5, q6, q7, q8⟩ := HQ.out _ hk.out)
                replace hx1 := Lib.hid hx1
                replace hx2 := Lib.hid hx2
                replace hx3 := Lib.hid hx3
                have hE0 : (w4.alloc (.cells #[.int .i64 ya, .slice eA en ec, .int .i64 oa, .slice fA 0 xc, .int .i64 ds, .int .i64 dm, .slice xF 0 xfc, .slice xR xrm xrc, .slice xH 0 xhc] 28)).heap[w4.heap.size]? = some (.cells #[.int .i64 ya, .slice eA en ec, .int .i64 oa, .slice fA 0 xc, .int .i64 ds, .int .i64 dm, .slice xF 0 xfc, .slice xR xrm xrc, .slice xH 0 xhc] 28 (0, 0)) := heap_alloc_new w4 _
                have hk5 := hk.out.alloc hk.out.size (.cells #[.int .i64 ya, .slice eA en ec, .int .i64 oa, .slice fA 0 xc, .int .i64 ds, .int .i64 dm, .slice xF 0 xfc, .slice xR xrm xrc, .slice xH 0 xhc] 28)
                have hEa := Lib.hid hk.out.size
                have hEw : Hid (w.heap.size < w4.heap.size) := Lib.hid (Nat.lt_of_lt_of_le HEL.out hk.out.size)
                clear q0 q1 q2 q3 q4 q5 q6 q7 q8
                clear hk HCp HL
                generalize w4.alloc (.cells #[.int .i64 ya, .slice eA en ec, .int .i64 oa, .slice fA 0 xc, .int .i64 ds, .int .i64 dm, .slice xF 0 xfc, .slice xR xrm xrc, .slice xH 0 xhc] 28) = W5 at *
                generalize w4.heap.size = E at *
                obtain ⟨q0, q1, q2, q3, q4, q5, q6, q7, q8⟩ := HQ.out _ hk5
                have p0 : W5.cell? ⟨E, 0, none⟩ = some (.int .i64 ya) := (cell_of_row W5 E 0 _ _ (0, 0) hE0).trans rfl
                have p1 : W5.cell? ⟨E, 1, none⟩ = some (.slice eA en ec) := (cell_of_row W5 E 1 _ _ (0, 0) hE0).trans rfl
                have p7 : W5.cell? ⟨E, 7, none⟩ = some (.slice xR xrm xrc) := (cell_of_row W5 E 7 _ _ (0, 0) hE0).trans rfl
                have g0 : W5.frozen? ⟨E, 0, none⟩ = false := frozen_of_row W5 E 0 _ _ hE0
                have g1 : W5.frozen? ⟨E, 1, none⟩ = false := frozen_of_row W5 E 1 _ _ hE0
                have g7 : W5.frozen? ⟨E, 7, none⟩ = false := frozen_of_row W5 E 7 _ _ hE0
                have hE7 := Lib.hid (m_start hE0 (.int .i64 (ya + (b : Int))) (.slice none 0 0) (.slice none 0 0))
                have hk7 : Hid (Below wa.heap.size wa (((W5.setCell ⟨E, 0, none⟩ (.int .i64 (ya + (b : Int)))).setCell ⟨E, 1, none⟩ (.slice none 0 0)).setCell ⟨E, 7, none⟩ (.slice none 0 0))) := Lib.hid (set3b hk5 hEa.out _ _ _)
                clear hE0 hk5
                have hy0 := hc4.out
                have hy1 := hc5.out
                go_upto_region 6 with fail
                go_upto_region 7 with fail
                clear hy0 hy1 p0 p1 p7 g0 g1 g7
                clear q0 q1 q2 q3 q4 q5 q6 q7 q8
                generalize ((W5.setCell ⟨E, 0, none⟩ (.int .i64 (ya + (b : Int)))).setCell ⟨E, 1, none⟩ (.slice none 0 0)).setCell ⟨E, 7, none⟩ (.slice none 0 0) = W7 at *
                have HM : Hid (M1 wa E (E + 1) 1 #[.int .i64 (ya + (b : Int)), .slice none 0 0, .int .i64 oa, .slice fA 0 xc, .int .i64 ds, .int .i64 dm, .slice xF 0 xfc, .slice none 0 0, .slice xH 0 xhc] [] W7) := Lib.hid ⟨none, 0, hE7.out, World.ownsRow_nil _ _ _ _, hk7.out, Nat.succ_le_of_lt (Array.getElem?_eq_some_iff.1 hE7.out).1⟩
                clear hE7 hk7
                obtain ⟨q0, q1, q2, q3, q4, q5, q6, q7, q8⟩ := HQ.out _ HM.out.be
                go_upto_region 8 with fail
                go_loopw [6] (fun v6 wx => ∃ i : Nat, i ≤ yn ∧ v6 = .int .i64 (i : Int) ∧ Hid (M1 wa E (E + 1) 1 #[.int .i64 (ya + (b : Int)), .slice none 0 0, .int .i64 oa, .slice fA 0 xc, .int .i64 ds, .int .i64 dm, .slice xF 0 xfc, .slice none 0 0, .slice xH 0 xhc] ((ws.take i).map (mvZ b)) wx ∧ ∀ x ∈ ws.take i, ptB x = true → x / 8 % 8 = 0)) (fun v6 _ => yn - (intOf v6).toNat)
                case atStart => exact ⟨0, Nat.zero_le _, rfl, Lib.hid ⟨HM.out, fun x hx => by simp at hx⟩⟩
                case round =>
                  clear HM q0 q1 q2 q3 q4 q5 q6 q7 q8
                  obtain ⟨i, hi, rfl, HM⟩ := hrel
                  have hk := Lib.hid HM.out.1.be
                  obtain ⟨q0, q1, q2, q3, q4, q5, q6, q7, q8⟩ := HQ.out _ hk.out
                  by_cases hin : i < yn
                  · have hd1 : decide ((i : Int) < (yn : Int)) = true := decide_eq_true (by omega)
                    obtain ⟨bb, oo, hA⟩ := HA.out (by omega)
                    subst hA
                    have y0 := (HZ.out _ hk.out).at_ hin
                    have HX := Lib.hid (wf_u ((HZ.out _ hk.out).wfAt hin))
                    have HG := Lib.hid (take_gd (ws := ws) (by rw [hwl.out]; exact hin))
                    have HN : Hid (((ws.take i).map (mvZ b)).length = i) := Lib.hid (by rw [List.length_map, List.length_take, hwl.out]; omega)
                    have HN2 := Lib.hid hin
                    have HS : Hid (∀ w', Below wa.heap.size wa w' → w'.cell? ⟨w.heap.size, 1, none⟩ = some (.slice (some ⟨bb, oo, none⟩) yn yc) ∧ w'.cell? ⟨bb, oo + i, none⟩ = some (.int .u64 (ws.getD i 0))) := Lib.hid (fun w' hb => ⟨(HQ.out _ hb).2.1, (HZ.out _ hb).at_ hin⟩)
                    generalize ws.getD i 0 = y at *
                    by_cases hp : ptB y = true
                    · by_cases hz0 : y / 8 % 8 = 0
                      · have HT : Hid (ptB y = true → y / 8 % 8 = 0) := Lib.hid (fun _ => hz0)
                        have HP : Hid (∀ W, Calls Tryz.prog 23 #[.int .u64 y] W fun e W' => e = .returned (.tuple #[.int .i64 0, .int .i64 (y / 64), .bool true]) ∧ W = W') := Lib.hid (fun W => by
                          have q := refParts_any y HX.out W
                          rw [if_pos hp, if_pos hp, hp, hz0] at q
                          exact q)
                        have HMV : Hid (∀ W, Calls Tryz.prog 24 #[.int .u64 y, .int .i64 (b : Int)] W fun e W' => e = .returned (.int .u64 (mvZ b y)) ∧ W = W') := Lib.hid (fun W => moved_any y b HX.out hbb.out W)
                        clear hp hz0
                        obtain ⟨A, c, A', c', W2, e1, t1, e2, g2, M2, b2, hch⟩ := m_step HM.out.1.drew (by simp) hEa.out (Nat.lt_succ_self _) HN.out (by have := HN2.out; omega) (mv_wd HX.out hbb.out)
                        have T1 := Lib.hid t1
                        have be3 := Lib.hid b2
                        have M3 := Lib.hid M2
                        have be4 := Lib.hid M2.be
                        have hch2 := Lib.hid hch
                        have hkd : Hid (Below wa.heap.size wa wr.drew) := Lib.hid hk.out.drew
                        have hka : Hid (Below wa.heap.size wa (wr.drew.alloc (.cells #[.int .u64 (mvZ b y)] 30))) := Lib.hid (hkd.out.alloc hkd.out.size _)
                        have e1a : (wr.alloc (.cells #[.int .u64 (mvZ b y)] 30)).drew.cell? ⟨E, 1, none⟩ = some (.slice A i c) := (((Below.refl wr.drew.heap.size wr.drew).alloc (Nat.le_refl _) (.cells #[.int .u64 (mvZ b y)] 30)).cell (p := ⟨E, 1, none⟩) (World.block_lt_of_cell? wr.drew _ e1)).trans e1
                        clear t1 M2 b2 hch be3 be4 hka
                        go_upto_region 13 with (go_at_call 23; (with_reducible refine (HP.out _).mono ?_); rintro e w9 ⟨rfl, rfl⟩)
                        go_wp2_with fail
                        apply region_way
                        case h1 =>
                          go_region_law (first
                              | (refine step_pure rfl 24 (.tmp 102) (.tmp 103) _ rfl (.int .u64 y) (.int .i64 (b : Int)) (.int .u64 (mvZ b y)) rfl rfl (moved_enter _ _ _) (HMV.out _) ?_)
                              | (refine step_apnd rfl (.tmp 96) (.tmp 105) 22 rfl (.slice A i c) _ _ rfl rfl T1.out ?_))
                          all_goals exact ⟨rfl, rfl⟩
                        case h2 =>
                          go_wp2
                          exact ⟨⟨i + 1, by omega, rfl, Lib.hid ⟨by rw [HG.out, List.map_append]; exact M3.out, fun x hx => by
                            rw [HG.out] at hx
                            rcases List.mem_append.1 hx with hx | hx
                            · exact HM.out.2 x hx
                            · rw [List.mem_singleton.1 hx]; exact HT.out⟩⟩, by simp [intOf]; omega⟩
                      · have hd2 : (y / 8 % 8 != 0) = true := bne_iff_ne.2 hz0
                        have HP : Hid (∀ W, Calls Tryz.prog 23 #[.int .u64 y] W fun e W' => e = .returned (.tuple #[.int .i64 (y / 8 % 8), .int .i64 (y / 64), .bool true]) ∧ W = W') := Lib.hid (fun W => by
                          have q := refParts_any y HX.out W
                          rw [if_pos hp, if_pos hp, hp] at q
                          exact q)
                        have HMV : Hid (∀ W, Calls Tryz.prog 24 #[.int .u64 y, .int .i64 (b : Int)] W fun e W' => e = .returned (.int .u64 (mvZ b y)) ∧ W = W') := Lib.hid (fun W => moved_any y b HX.out hbb.out W)
                        clear hp hz0
                        go_wp2_with (first | (go_at_call 23; (with_reducible refine (HP.out _).mono ?_); rintro e w9 ⟨rfl, rfl⟩) | (go_at_call 8; (with_reducible refine (awake12_any _).mono ?_); rintro e w9 ⟨rfl, hb9⟩; replace hk := Lib.hid (hk.out.trans (hb9.mono hk.out.size)); clear hb9))
                        go_ret
                        exact ⟨rfl, HE.out _ hk.out⟩
                    · have hp2 : ptB y = false := by simpa using hp
                      have HT : Hid (ptB y = true → y / 8 % 8 = 0) := Lib.hid (fun e => absurd e hp)
                      have HP : Hid (∀ W, Calls Tryz.prog 23 #[.int .u64 y] W fun e W' => e = .returned (.tuple #[.int .i64 0, .int .i64 0, .bool false]) ∧ W = W') := Lib.hid (fun W => by
                        have q := refParts_any y HX.out W
                        rw [if_neg hp, if_neg hp, hp2] at q
                        exact q)
                      have HMV : Hid (∀ W, Calls Tryz.prog 24 #[.int .u64 y, .int .i64 (b : Int)] W fun e W' => e = .returned (.int .u64 (mvZ b y)) ∧ W = W') := Lib.hid (fun W => moved_any y b HX.out hbb.out W)
                      clear hp hp2
                      obtain ⟨A, c, A', c', W2, e1, t1, e2, g2, M2, b2, hch⟩ := m_step HM.out.1.drew (by simp) hEa.out (Nat.lt_succ_self _) HN.out (by have := HN2.out; omega) (mv_wd HX.out hbb.out)
                      have T1 := Lib.hid t1
                      have be3 := Lib.hid b2
                      have M3 := Lib.hid M2
                      have be4 := Lib.hid M2.be
                      have hch2 := Lib.hid hch
                      have hkd : Hid (Below wa.heap.size wa wr.drew) := Lib.hid hk.out.drew
                      have hka : Hid (Below wa.heap.size wa (wr.drew.alloc (.cells #[.int .u64 (mvZ b y)] 30))) := Lib.hid (hkd.out.alloc hkd.out.size _)
                      have e1a : (wr.alloc (.cells #[.int .u64 (mvZ b y)] 30)).drew.cell? ⟨E, 1, none⟩ = some (.slice A i c) := (((Below.refl wr.drew.heap.size wr.drew).alloc (Nat.le_refl _) (.cells #[.int .u64 (mvZ b y)] 30)).cell (p := ⟨E, 1, none⟩) (World.block_lt_of_cell? wr.drew _ e1)).trans e1
                      clear t1 M2 b2 hch be3 be4 hka
                      go_upto_region 13 with (go_at_call 23; (with_reducible refine (HP.out _).mono ?_); rintro e w9 ⟨rfl, rfl⟩)
                      go_wp2_with fail
                      apply region_way
                      case h1 =>
                        go_region_law (first
                            | (refine step_pure rfl 24 (.tmp 102) (.tmp 103) _ rfl (.int .u64 y) (.int .i64 (b : Int)) (.int .u64 (mvZ b y)) rfl rfl (moved_enter _ _ _) (HMV.out _) ?_)
                            | (refine step_apnd rfl (.tmp 96) (.tmp 105) 22 rfl (.slice A i c) _ _ rfl rfl T1.out ?_))
                        all_goals exact ⟨rfl, rfl⟩
                      case h2 =>
                        go_wp2
                        exact ⟨⟨i + 1, by omega, rfl, Lib.hid ⟨by rw [HG.out, List.map_append]; exact M3.out, fun x hx => by
                          rw [HG.out] at hx
                          rcases List.mem_append.1 hx with hx | hx
                          · exact HM.out.2 x hx
                          · rw [List.mem_singleton.1 hx]; exact HT.out⟩⟩, by simp [intOf]; omega⟩
                  · have e : i = yn := by omega
                    clear e
                    have e : yn = i := by omega
                    subst e
                    have htake : ws.take yn = ws := List.take_of_length_le (by rw [hwl.out]; exact Nat.le_refl _)
                    have hd1 : decide ((yn : Int) < (yn : Int)) = false := decide_eq_false (by omega)
                    obtain ⟨M0, hT0⟩ := HM.out
                    rw [htake] at M0 hT0
                    have hT := Lib.hid hT0
                    obtain ⟨A1, c1, hb1, ho1, hbe1, hS1⟩ := M0
                    have hl1 : (ws.map (mvZ b)).length = yn := by rw [List.length_map, hwl.out]
                    rw [hl1] at hb1 ho1
                    have hz1 : Hid (Zs .u64 wr A1 yn c1 (ws.map (mvZ b))) := Lib.hid (own_zs ho1 hl1 (fun x hx => by
                      obtain ⟨u, hu, rfl⟩ := List.mem_map.1 hx
                      exact wf_u64' (mv_wd (hwd.out u hu) hbb.out)))
                    obtain ⟨S2, hS2⟩ : ∃ S2, S2 = wr.heap.size := ⟨_, rfl⟩
                    have HA1 : Hid (∀ b' o', A1 = some ⟨b', o', none⟩ → E < b' ∧ b' < S2) := Lib.hid (fun b' o' e => by
                      subst e
                      have := own_lt ho1
                      omega)
                    have hES2 : Hid (E < S2) := Lib.hid (by omega)
                    have HM2 : Hid (M1 wa E S2 7 #[.int .i64 (ya + (b : Int)), .slice A1 yn c1, .int .i64 oa, .slice fA 0 xc, .int .i64 ds, .int .i64 dm, .slice xF 0 xfc, .slice none 0 0, .slice xH 0 xhc] [] wr) := Lib.hid ⟨none, 0, by simpa using hb1, World.ownsRow_nil _ _ _ _, hbe1, by rw [hS2]; exact Nat.le_refl _⟩
                    clear hb1 ho1 hbe1 hS1 hT0 hl1 htake HM hS2 hi hin
                    go_upto_region 15 with fail
                    go_loopw [10] (fun v10 wx => ∃ i : Nat, i ≤ rm ∧ v10 = .int .i64 (i : Int) ∧ Hid (M1 wa E S2 7 #[.int .i64 (ya + (b : Int)), .slice A1 yn c1, .int .i64 oa, .slice fA 0 xc, .int .i64 ds, .int .i64 dm, .slice xF 0 xfc, .slice none 0 0, .slice xH 0 xhc] ((rts.take i).map (mvZ b)) wx ∧ Zs .u64 wx A1 yn c1 (ws.map (mvZ b)))) (fun v10 _ => rm - (intOf v10).toNat)
                    case atStart => exact ⟨0, Nat.zero_le _, rfl, Lib.hid ⟨HM2.out, hz1.out⟩⟩
                    case round =>
                      clear HM2 hz1 hd1 q0 q1 q2 q3 q4 q5 q6 q7 q8 hk
                      obtain ⟨i, hi, rfl, HM⟩ := hrel
                      have hk := Lib.hid HM.out.1.be
                      obtain ⟨q0, q1, q2, q3, q4, q5, q6, q7, q8⟩ := HQ.out _ hk.out
                      by_cases hin : i < rm
                      · have hd1 : decide ((i : Int) < (rm : Int)) = true := decide_eq_true (by omega)
                        obtain ⟨bb, oo, hA⟩ := HAR.out (by omega)
                        subst hA
                        have y0 := (HZR.out _ hk.out).at_ hin
                        have HX := Lib.hid (wf_u ((HZR.out _ hk.out).wfAt hin))
                        have HG := Lib.hid (take_gd (ws := rts) (by rw [hrl.out]; exact hin))
                        have HN : Hid (((rts.take i).map (mvZ b)).length = i) := Lib.hid (by rw [List.length_map, List.length_take, hrl.out]; omega)
                        have HN2 := Lib.hid hin
                        have HS : Hid (∀ w', Below wa.heap.size wa w' → w'.cell? ⟨w.heap.size, 7, none⟩ = some (.slice (some ⟨bb, oo, none⟩) rm rc) ∧ w'.cell? ⟨bb, oo + i, none⟩ = some (.int .u64 (rts.getD i 0))) := Lib.hid (fun w' hb => ⟨(HQ.out _ hb).2.2.2.2.2.2.2.1, (HZR.out _ hb).at_ hin⟩)
                        generalize rts.getD i 0 = y at *
                        have HMV : Hid (∀ W, Calls Tryz.prog 24 #[.int .u64 y, .int .i64 (b : Int)] W fun e W' => e = .returned (.int .u64 (mvZ b y)) ∧ W = W') := Lib.hid (fun W => moved_any y b HX.out hbb.out W)
                        obtain ⟨A, c, A', c', W2, e1, t1, e2, g2, M2, b2, hch⟩ := m_step HM.out.1.drew (by simp) hEa.out hES2.out HN.out (by have := HN2.out; omega) (mv_wd HX.out hbb.out)
                        have T1 := Lib.hid t1
                        have be3 := Lib.hid b2
                        have M3 := Lib.hid M2
                        have be4 := Lib.hid M2.be
                        have hch2 := Lib.hid hch
                        have hkd : Hid (Below wa.heap.size wa wr.drew) := Lib.hid hk.out.drew
                        have hka : Hid (Below wa.heap.size wa (wr.drew.alloc (.cells #[.int .u64 (mvZ b y)] 30))) := Lib.hid (hkd.out.alloc hkd.out.size _)
                        have e1a : (wr.alloc (.cells #[.int .u64 (mvZ b y)] 30)).drew.cell? ⟨E, 7, none⟩ = some (.slice A i c) := (((Below.refl wr.drew.heap.size wr.drew).alloc (Nat.le_refl _) (.cells #[.int .u64 (mvZ b y)] 30)).cell (p := ⟨E, 7, none⟩) (World.block_lt_of_cell? wr.drew _ e1)).trans e1
                        clear t1 M2 b2 hch be3 be4 hka
                        have HZ3 := Lib.hid (zs_turn (HM.out.2.below ((Below.refl _ wr).drew)) hch2.out (fun b' o' e h0 hk' => by
                          have := HA1.out b' o' e
                          omega))
                        go_wp2_with fail
                        apply region_way
                        case h1 =>
                          go_region_law (first
                              | (refine step_pure rfl 24 (.tmp 122) (.tmp 123) _ rfl (.int .u64 y) (.int .i64 (b : Int)) (.int .u64 (mvZ b y)) rfl rfl (moved_enter _ _ _) (HMV.out _) ?_)
                              | (refine step_apnd rfl (.tmp 117) (.tmp 125) 22 rfl (.slice A i c) _ _ rfl rfl T1.out ?_))
                          all_goals exact ⟨rfl, rfl⟩
                        case h2 =>
                          go_wp2
                          exact ⟨⟨i + 1, by omega, rfl, Lib.hid ⟨by rw [HG.out, List.map_append]; exact M3.out, HZ3.out⟩⟩, by simp [intOf]; omega⟩
                      · have e : rm = i := by omega
                        subst e
                        have hd1 : decide ((rm : Int) < (rm : Int)) = false := decide_eq_false (by omega)
                        have htake2 : rts.take rm = rts := List.take_of_length_le (by rw [hrl.out]; exact Nat.le_refl _)
                        obtain ⟨M0, Z1⟩ := HM.out
                        rw [htake2] at M0
                        obtain ⟨A7, c7, hb7, ho7, hbe7, hS7⟩ := M0
                        have hl7 : (rts.map (mvZ b)).length = rm := by rw [List.length_map, hrl.out]
                        rw [hl7] at hb7 ho7
                        have z7 : Zs .u64 wr A7 rm c7 (rts.map (mvZ b)) := own_zs ho7 hl7 (fun x hx => by
                          obtain ⟨u, hu, rfl⟩ := List.mem_map.1 hx
                          exact wf_u64' (mv_wd (hrd.out u hu) hbb.out))
                        have wfe : (Lit.int .i64 (ya + (b : Int))).wf = true := by
                          have h1 := hc4.out
                          have h2 := hc5.out
                          have h3 := hbb.out
                          simp [Lit.wf, IntKind.min, IntKind.max, IntKind.signed, IntKind.bits]
                          omega
                        have dvE : DV wr (mR (ya + (b : Int)) A1 yn c1 oa fA xc ds dm xF xfc A7 rm c7 xH xhc) (mD (ya + (b : Int)) oa ds dm (ws.map (mvZ b)) (rts.map (mvZ b))) := mR_dv Z1 z7 hx1.out hx2.out hx3.out wfe wfo.out wfd.out wfm.out
                        have HA7 : Hid (0 < rm → ∃ b o, A7 = some ⟨b, o, none⟩) := Lib.hid (fun h0 => by
                          obtain ⟨b, o, e, _⟩ := z7.some h0
                          exact ⟨b, o, e⟩)
                        have HQX : Hid (∀ w', Below wr.heap.size wr w' → (w'.cell? ⟨w.heap.size, 0, none⟩ = some (.int .i64 ya) ∧ w'.cell? ⟨w.heap.size, 1, none⟩ = some (.slice yA yn yc) ∧ w'.cell? ⟨w.heap.size, 2, none⟩ = some (.int .i64 oa) ∧ w'.cell? ⟨w.heap.size, 3, none⟩ = some (.slice oA 0 oc) ∧ w'.cell? ⟨w.heap.size, 4, none⟩ = some (.int .i64 ds) ∧ w'.cell? ⟨w.heap.size, 5, none⟩ = some (.int .i64 dm) ∧ w'.cell? ⟨w.heap.size, 6, none⟩ = some (.slice F 0 fc) ∧ w'.cell? ⟨w.heap.size, 7, none⟩ = some (.slice R rm rc) ∧ w'.cell? ⟨w.heap.size, 8, none⟩ = some (.slice H 0 hc)) ∧ (w'.cell? ⟨E, 0, none⟩ = some (.int .i64 (ya + (b : Int))) ∧ w'.cell? ⟨E, 1, none⟩ = some (.slice A1 yn c1) ∧ w'.cell? ⟨E, 2, none⟩ = some (.int .i64 oa) ∧ w'.cell? ⟨E, 3, none⟩ = some (.slice fA 0 xc) ∧ w'.cell? ⟨E, 4, none⟩ = some (.int .i64 ds) ∧ w'.cell? ⟨E, 5, none⟩ = some (.int .i64 dm) ∧ w'.cell? ⟨E, 6, none⟩ = some (.slice xF 0 xfc) ∧ w'.cell? ⟨E, 7, none⟩ = some (.slice A7 rm c7) ∧ w'.cell? ⟨E, 8, none⟩ = some (.slice xH 0 xhc))) := Lib.hid (fun w' hb => by
                          have hbw := hbe7.trans (hb.mono hbe7.size)
                          obtain ⟨a0, a1, a2, a3, a4, a5, a6, a7, a8⟩ := HQ.out _ hbw
                          have m1 := (hb.block E (Array.getElem?_eq_some_iff.1 hb7).1).trans hb7
                          exact ⟨⟨a0, a1, a2, a3, a4, a5, a6, a7, a8⟩, ⟨(cell_of_row w' E 0 _ _ (0, 0) m1).trans rfl, (cell_of_row w' E 1 _ _ (0, 0) m1).trans rfl, (cell_of_row w' E 2 _ _ (0, 0) m1).trans rfl, (cell_of_row w' E 3 _ _ (0, 0) m1).trans rfl, (cell_of_row w' E 4 _ _ (0, 0) m1).trans rfl, (cell_of_row w' E 5 _ _ (0, 0) m1).trans rfl, (cell_of_row w' E 6 _ _ (0, 0) m1).trans rfl, (cell_of_row w' E 7 _ _ (0, 0) m1).trans rfl, (cell_of_row w' E 8 _ _ (0, 0) m1).trans rfl⟩⟩)
                        have HDX : Hid (∀ w', Below wr.heap.size wr w' → DV w' (mR ya yA yn yc oa oA oc ds dm F fc R rm rc H hc) (mD ya oa ds dm ws rts) ∧ DV w' (mR (ya + (b : Int)) A1 yn c1 oa fA xc ds dm xF xfc A7 rm c7 xH xhc) (mD (ya + (b : Int)) oa ds dm (ws.map (mvZ b)) (rts.map (mvZ b)))) := Lib.hid (fun w' hb => ⟨HDm.out _ (hbe7.trans (hb.mono hbe7.size)), dvE.below hb⟩)
                        have hbx := Lib.hid hbe7
                        clear hb7 ho7 hbe7 hS7 hl7 z7 wfe dvE htake2 Z1 HM hi hin hk q0 q1 q2 q3 q4 q5 q6 q7 q8 HA1 hES2
                        obtain ⟨⟨q0, q1, q2, q3, q4, q5, q6, q7, q8⟩, ⟨p0, p1, p2, p3, p4, p5, p6, p7, p8⟩⟩ := HQX.out _ (Below.refl _ _)
                        go_upto_region 18 with fail
                        have hX9 : Hid (Below wr.heap.size wr wr) := Lib.hid (Below.refl _ _)
                        have hcd : Hid (Below wr.heap.size wr wr.drew) := Lib.hid (Below.refl _ wr).drew
                        generalize wr = X at *
                        have hay : 0 ≤ ya ∧ ya ≤ 1099511627776 := ⟨hc4.out, hc5.out⟩
                        have hw60 : ws.length ≤ 60 := by rw [hwl.out]; exact HYN.out
                        have hWe : whyO (mgs (ya + (b : Int)) oa (ws.map (mvZ b))) [] (mD (ya + (b : Int)) oa ds dm (ws.map (mvZ b)) (rts.map (mvZ b))) = ⟨#[]⟩ := m_why hay hbb.out hw60 hT.out hwd.out hrd.out hW0.out
                        have hsd : Sepa (mgs ya oa ws) := m_sepa _ _ _ (by omega)
                        have hse : Sepa (mgs (ya + (b : Int)) oa (ws.map (mvZ b))) := m_sepa _ _ _ (by have := hbb.out; omega)
                        have CW := Lib.hid (fun w' (hb : Below X.heap.size X w') => by
                          have q := mc_why (HDX.out w' hb).2 HYN.out HRM.out
                          rw [hWe] at q
                          exact q)
                        have CLe := Lib.hid (fun w' (hb : Below X.heap.size X w') => mc_live (HDX.out w' hb).2 HYN.out HRM.out hse)
                        have CLd := Lib.hid (fun w' (hb : Below X.heap.size X w') => mc_live (HDX.out w' hb).1 HYN.out HRM.out hsd)
                        have HLL : Hid (∀ l l', Rchd (mgs ya oa ws) rts l → Rchd (mgs (ya + (b : Int)) oa (ws.map (mvZ b))) (rts.map (mvZ b)) l' → szO l' = szO l) := Lib.hid (fun l l' h h' => m_live hay hbb.out hw60 hT.out h h')
                        have hrts := Lib.hid (why_yes hW0.out).2.1
                        clear hWe hsd hse hw60 hay
                        clear q0 q1 q2 q3 q4 q5 q6 q7 q8
                        clear p0 p1 p2 p3 p4 p5 p6 p7 p8
                        obtain ⟨⟨q0, q1, q2, q3, q4, q5, q6, q7, q8⟩, ⟨p0, p1, p2, p3, p4, p5, p6, p7, p8⟩⟩ := HQX.out _ hcd.out
                        go_wp2_with fail
                        go_region_held3 (fun w' => (w'.cell? ⟨w.heap.size, 0, none⟩ = some (.int .i64 ya) ∧ w'.cell? ⟨w.heap.size, 1, none⟩ = some (.slice yA yn yc) ∧ w'.cell? ⟨w.heap.size, 2, none⟩ = some (.int .i64 oa) ∧ w'.cell? ⟨w.heap.size, 3, none⟩ = some (.slice oA 0 oc) ∧ w'.cell? ⟨w.heap.size, 4, none⟩ = some (.int .i64 ds) ∧ w'.cell? ⟨w.heap.size, 5, none⟩ = some (.int .i64 dm) ∧ w'.cell? ⟨w.heap.size, 6, none⟩ = some (.slice F 0 fc) ∧ w'.cell? ⟨w.heap.size, 7, none⟩ = some (.slice R rm rc) ∧ w'.cell? ⟨w.heap.size, 8, none⟩ = some (.slice H 0 hc)) ∧ (w'.cell? ⟨E, 0, none⟩ = some (.int .i64 (ya + (b : Int))) ∧ w'.cell? ⟨E, 1, none⟩ = some (.slice A1 yn c1) ∧ w'.cell? ⟨E, 2, none⟩ = some (.int .i64 oa) ∧ w'.cell? ⟨E, 3, none⟩ = some (.slice fA 0 xc) ∧ w'.cell? ⟨E, 4, none⟩ = some (.int .i64 ds) ∧ w'.cell? ⟨E, 5, none⟩ = some (.int .i64 dm) ∧ w'.cell? ⟨E, 6, none⟩ = some (.slice xF 0 xfc) ∧ w'.cell? ⟨E, 7, none⟩ = some (.slice A7 rm c7) ∧ w'.cell? ⟨E, 8, none⟩ = some (.slice xH 0 xhc)))
                          (first | with_reducible exact HQX.out _ hcd.out | with_reducible exact HQX.out _ hX9.out)
                          (first
                            | (go_at_call 12; (with_reducible refine (CW.out _ hcd.out).mono ?_); rintro e w6 ⟨rfl, hb6⟩; replace hX9 := Lib.hid (hcd.out.trans (hb6.mono hcd.out.size)); clear hb6)
                            | (go_at_call 19; (with_reducible refine (CLe.out _ hX9.out).mono ?_); rintro e w7 ⟨⟨l7, hl7, rfl⟩, hb7⟩; replace hX9 := Lib.hid (hX9.out.trans (hb7.mono hX9.out.size)); replace hl7 := Lib.hid hl7; clear hb7)
                            | (go_at_call 19; (with_reducible refine (CLd.out _ hX9.out).mono ?_); rintro e w8 ⟨⟨l8, hl8, rfl⟩, hb8⟩; replace hX9 := Lib.hid (hX9.out.trans (hb8.mono hX9.out.size)); have hne : (szO l7 != szO l8) = false := bne_eq_false_iff_eq.2 (HLL.out _ _ hl8 hl7.out); clear hb8 hl8))
                        clear q0 q1 q2 q3 q4 q5 q6 q7 q8
                        clear p0 p1 p2 p3 p4 p5 p6 p7 p8
                        obtain ⟨⟨q0, q1, q2, q3, q4, q5, q6, q7, q8⟩, ⟨p0, p1, p2, p3, p4, p5, p6, p7, p8⟩⟩ := HQX.out _ hX9.out
                        clear CW CLe CLd HLL hcd
                        go_upto_region 21 with fail
                        go_loopw [11] (fun v11 wx => ∃ i : Nat, i ≤ rm ∧ v11 = .int .i64 (i : Int) ∧ Hid (Below X.heap.size X wx)) (fun v11 _ => rm - (intOf v11).toNat)
                        case atStart => exact ⟨0, Nat.zero_le _, rfl, hX9⟩
                        case round =>
                          clear q0 q1 q2 q3 q4 q5 q6 q7 q8
                          clear p0 p1 p2 p3 p4 p5 p6 p7 p8
                          clear hX9 hd1
                          obtain ⟨i, hi, rfl, hk⟩ := hrel
                          obtain ⟨⟨q0, q1, q2, q3, q4, q5, q6, q7, q8⟩, _⟩ := HQX.out _ hk.out
                          by_cases hin : i < rm
                          · have hd1 : decide ((i : Int) < (rm : Int)) = true := decide_eq_true (by omega)
                            obtain ⟨rb, ro, hA⟩ := HAR.out (by omega)
                            subst hA
                            obtain ⟨eb, eo, hA⟩ := HA7.out (by omega)
                            subst hA
                            have hxm : rts.getD i 0 ∈ rts := by
                              rw [List.getD_eq_getElem?_getD, List.getElem?_eq_getElem (by rw [hrl.out]; exact hin)]
                              exact List.getElem_mem (by rw [hrl.out]; exact hin)
                            obtain ⟨tr, htr, hwt⟩ := hrts.out _ hxm
                            have hxd := hrd.out _ hxm
                            have hgm : (rts.map (mvZ b)).getD i 0 = mvZ b (rts.getD i 0) := by
                              rw [List.getD_eq_getElem?_getD, List.getD_eq_getElem?_getD, List.getElem?_map, List.getElem?_eq_getElem (by rw [hrl.out]; exact hin)]
                              rfl
                            have HSD : Hid (∀ w', Below X.heap.size X w' → (w'.cell? ⟨w.heap.size, 0, none⟩ = some (.int .i64 ya) ∧ w'.cell? ⟨w.heap.size, 1, none⟩ = some (.slice yA yn yc) ∧ w'.cell? ⟨w.heap.size, 2, none⟩ = some (.int .i64 oa) ∧ w'.cell? ⟨w.heap.size, 3, none⟩ = some (.slice oA 0 oc) ∧ w'.cell? ⟨w.heap.size, 4, none⟩ = some (.int .i64 ds) ∧ w'.cell? ⟨w.heap.size, 5, none⟩ = some (.int .i64 dm) ∧ w'.cell? ⟨w.heap.size, 6, none⟩ = some (.slice F 0 fc) ∧ w'.cell? ⟨w.heap.size, 7, none⟩ = some (.slice (some ⟨rb, ro, none⟩) rm rc) ∧ w'.cell? ⟨w.heap.size, 8, none⟩ = some (.slice H 0 hc)) ∧ w'.cell? ⟨rb, ro + i, none⟩ = some (.int .u64 (rts.getD i 0))) := Lib.hid (fun w' hb => ⟨(HQX.out w' hb).1, (HDX.out w' hb).1.roots.at_ hin⟩)
                            have HSE : Hid (∀ w', Below X.heap.size X w' → (w'.cell? ⟨E, 0, none⟩ = some (.int .i64 (ya + (b : Int))) ∧ w'.cell? ⟨E, 1, none⟩ = some (.slice A1 yn c1) ∧ w'.cell? ⟨E, 2, none⟩ = some (.int .i64 oa) ∧ w'.cell? ⟨E, 3, none⟩ = some (.slice fA 0 xc) ∧ w'.cell? ⟨E, 4, none⟩ = some (.int .i64 ds) ∧ w'.cell? ⟨E, 5, none⟩ = some (.int .i64 dm) ∧ w'.cell? ⟨E, 6, none⟩ = some (.slice xF 0 xfc) ∧ w'.cell? ⟨E, 7, none⟩ = some (.slice (some ⟨eb, eo, none⟩) rm c7) ∧ w'.cell? ⟨E, 8, none⟩ = some (.slice xH 0 xhc)) ∧ w'.cell? ⟨eb, eo + i, none⟩ = some (.int .u64 (mvZ b (rts.getD i 0)))) := Lib.hid (fun w' hb => ⟨(HQX.out w' hb).2, by rw [← hgm]; exact (HDX.out w' hb).2.roots.at_ hin⟩)
                            have CR := Lib.hid (fun w' (hb : Below X.heap.size X w') => mc_read (HDX.out w' hb).1 HYN.out hxd htr hwt)
                            have CE := Lib.hid (fun w' (hb : Below X.heap.size X w') => mc_read (HDX.out w' hb).2 HYN.out (mv_wd hxd hbb.out) ((m_rd ⟨hc4.out, hc5.out⟩ hbb.out (by rw [hwl.out]; exact HYN.out) hT.out hwd.out [] hxd tr).2 htr) hwt)
                            clear hxm htr hwt hxd hgm
                            generalize rts.getD i 0 = x at *
                            clear q0 q1 q2 q3 q4 q5 q6 q7 q8
                            obtain ⟨⟨q0, q1, q2, q3, q4, q5, q6, q7, q8⟩, y0⟩ := HSD.out _ hk.out
                            have hkd : Hid (Below X.heap.size X wr.drew) := Lib.hid hk.out.drew
                            have hka : Hid (Below X.heap.size X (wr.alloc (.cells #[.int .i64 0, .int .i64 0, .bool false, .slice none 0 0, .int .u64 0, .string ⟨#[]⟩, .slice none 0 0] 40)).drew) := Lib.hid (hk.out.alloc hk.out.size _).drew
                            have hbd0 : Hid (Below wr.heap.size wr wr.drew) := Lib.hid (Below.refl _ _).drew
                            have hba0 : Hid (Below wr.heap.size wr (wr.alloc (.cells #[.int .i64 0, .int .i64 0, .bool false, .slice none 0 0, .int .u64 0, .string ⟨#[]⟩, .slice none 0 0] 40)).drew) := Lib.hid ((Below.refl _ _).alloc (Nat.le_refl _) _).drew
                            go_wp2_with fail
                            go_region_held3 (fun w' => (w'.cell? ⟨w.heap.size, 0, none⟩ = some (.int .i64 ya) ∧ w'.cell? ⟨w.heap.size, 1, none⟩ = some (.slice yA yn yc) ∧ w'.cell? ⟨w.heap.size, 2, none⟩ = some (.int .i64 oa) ∧ w'.cell? ⟨w.heap.size, 3, none⟩ = some (.slice oA 0 oc) ∧ w'.cell? ⟨w.heap.size, 4, none⟩ = some (.int .i64 ds) ∧ w'.cell? ⟨w.heap.size, 5, none⟩ = some (.int .i64 dm) ∧ w'.cell? ⟨w.heap.size, 6, none⟩ = some (.slice F 0 fc) ∧ w'.cell? ⟨w.heap.size, 7, none⟩ = some (.slice (some ⟨rb, ro, none⟩) rm rc) ∧ w'.cell? ⟨w.heap.size, 8, none⟩ = some (.slice H 0 hc)) ∧ w'.cell? ⟨rb, ro + i, none⟩ = some (.int .u64 x))
                              (first | with_reducible exact HSD.out _ hkd.out | with_reducible exact HSD.out _ h2.out | with_reducible exact HSD.out _ hka.out | with_reducible exact HSD.out _ hk.out | with_reducible exact HSD.out _ (h2.out.alloc h2.out.size _) | with_reducible exact HSD.out _ (set7bb h2.out hk.out.size _ _ _ _ _ _ _))
                              (first
                                | (go_at_call 10; have Q := CR.out _ hkd.out; (with_reducible refine Q.mono ?_); clear Q; rintro e w2 ⟨⟨tk, tn, tg, tA, tln, tlc, tu, ts, tB, tm, tdd, rfl, htv⟩, hb2⟩; have h2 := Lib.hid (hkd.out.trans (hb2.mono hkd.out.size)); have h20 := Lib.hid (hbd0.out.trans (hb2.mono hbd0.out.size)); replace htv := Lib.hid htv; clear hb2)
                                | (go_at_call 10; have Q := CR.out _ hka.out; (with_reducible refine Q.mono ?_); clear Q; rintro e w2 ⟨⟨tk, tn, tg, tA, tln, tlc, tu, ts, tB, tm, tdd, rfl, htv⟩, hb2⟩; have ht : w2.heap[wr.heap.size]? = some (.cells #[.int .i64 0, .int .i64 0, .bool false, .slice none 0 0, .int .u64 0, .string ⟨#[]⟩, .slice none 0 0] 40 (0, 0)) := (hb2.block wr.heap.size (by simp)).trans (heap_alloc_new wr _); have t0 : w2.cell? ⟨wr.heap.size, 0, none⟩ = some (.int .i64 0) := (cell_of_row w2 wr.heap.size 0 _ _ (0, 0) ht).trans rfl; have f0 : w2.frozen? ⟨wr.heap.size, 0, none⟩ = false := frozen_of_row w2 wr.heap.size 0 _ _ ht; have t1 : w2.cell? ⟨wr.heap.size, 1, none⟩ = some (.int .i64 0) := (cell_of_row w2 wr.heap.size 1 _ _ (0, 0) ht).trans rfl; have f1 : w2.frozen? ⟨wr.heap.size, 1, none⟩ = false := frozen_of_row w2 wr.heap.size 1 _ _ ht; have t2 : w2.cell? ⟨wr.heap.size, 2, none⟩ = some (.bool false) := (cell_of_row w2 wr.heap.size 2 _ _ (0, 0) ht).trans rfl; have f2 : w2.frozen? ⟨wr.heap.size, 2, none⟩ = false := frozen_of_row w2 wr.heap.size 2 _ _ ht; have t3 : w2.cell? ⟨wr.heap.size, 3, none⟩ = some (.slice none 0 0) := (cell_of_row w2 wr.heap.size 3 _ _ (0, 0) ht).trans rfl; have f3 : w2.frozen? ⟨wr.heap.size, 3, none⟩ = false := frozen_of_row w2 wr.heap.size 3 _ _ ht; have t4 : w2.cell? ⟨wr.heap.size, 4, none⟩ = some (.int .u64 0) := (cell_of_row w2 wr.heap.size 4 _ _ (0, 0) ht).trans rfl; have f4 : w2.frozen? ⟨wr.heap.size, 4, none⟩ = false := frozen_of_row w2 wr.heap.size 4 _ _ ht; have t5 : w2.cell? ⟨wr.heap.size, 5, none⟩ = some (.string ⟨#[]⟩) := (cell_of_row w2 wr.heap.size 5 _ _ (0, 0) ht).trans rfl; have f5 : w2.frozen? ⟨wr.heap.size, 5, none⟩ = false := frozen_of_row w2 wr.heap.size 5 _ _ ht; have t6 : w2.cell? ⟨wr.heap.size, 6, none⟩ = some (.slice none 0 0) := (cell_of_row w2 wr.heap.size 6 _ _ (0, 0) ht).trans rfl; have f6 : w2.frozen? ⟨wr.heap.size, 6, none⟩ = false := frozen_of_row w2 wr.heap.size 6 _ _ ht; replace ht := Lib.hid ht; have h2 := Lib.hid (hka.out.trans (hb2.mono hka.out.size)); have h20 := Lib.hid (hba0.out.trans (hb2.mono hba0.out.size)); replace htv := Lib.hid htv; clear hb2))
                            · have hTt : Hid ((w2.alloc (.cells #[.int .i64 tk, .int .i64 tn, .bool tg, .slice tA tln tlc, .int .u64 tu, .string ts, .slice tB tm tdd] 40)).heap[w2.heap.size]? = some (.cells #[.int .i64 tk, .int .i64 tn, .bool tg, .slice tA tln tlc, .int .u64 tu, .string ts, .slice tB tm tdd] 40 (0, 0))) := Lib.hid (heap_alloc_new w2 _)
                              have hYt : Hid (Below X.heap.size X (w2.alloc (.cells #[.int .i64 tk, .int .i64 tn, .bool tg, .slice tA tln tlc, .int .u64 tu, .string ts, .slice tB tm tdd] 40))) := Lib.hid (h2.out.alloc h2.out.size _)
                              have hZt : Hid (Below wr.heap.size wr (w2.alloc (.cells #[.int .i64 tk, .int .i64 tn, .bool tg, .slice tA tln tlc, .int .u64 tu, .string ts, .slice tB tm tdd] 40))) := Lib.hid (h20.out.alloc h20.out.size _)
                              have tvt : Hid (TV (w2.alloc (.cells #[.int .i64 tk, .int .i64 tn, .bool tg, .slice tA tln tlc, .int .u64 tu, .string ts, .slice tB tm tdd] 40)) ⟨tk, tn, tg, tA, tln, tlc, tu, ts, tB, tm, tdd⟩ tr) := Lib.hid (htv.out.tv.bel ((Below.refl _ w2).alloc (Nat.le_refl _) _))
                              clear htv h2 h20 hkd hka hbd0 hba0
                              generalize w2.alloc (.cells #[.int .i64 tk, .int .i64 tn, .bool tg, .slice tA tln tlc, .int .u64 tu, .string ts, .slice tB tm tdd] 40) = Y at *
                              generalize w2.heap.size = T at *
                              clear q0 q1 q2 q3 q4 q5 q6 q7 q8
                              clear y0
                              obtain ⟨⟨p0, p1, p2, p3, p4, p5, p6, p7, p8⟩, z0⟩ := HSE.out _ hYt.out
                              have hkd : Hid (Below X.heap.size X Y.drew) := Lib.hid hYt.out.drew
                              have hka : Hid (Below X.heap.size X (Y.alloc (.cells #[.int .i64 0, .int .i64 0, .bool false, .slice none 0 0, .int .u64 0, .string ⟨#[]⟩, .slice none 0 0] 40)).drew) := Lib.hid (hYt.out.alloc hYt.out.size _).drew
                              have hbd0 : Hid (Below Y.heap.size Y Y.drew) := Lib.hid (Below.refl _ _).drew
                              have hba0 : Hid (Below Y.heap.size Y (Y.alloc (.cells #[.int .i64 0, .int .i64 0, .bool false, .slice none 0 0, .int .u64 0, .string ⟨#[]⟩, .slice none 0 0] 40)).drew) := Lib.hid ((Below.refl _ _).alloc (Nat.le_refl _) _).drew
                              go_wp2_with fail
                              go_region_held3 (fun w' => (w'.cell? ⟨E, 0, none⟩ = some (.int .i64 (ya + (b : Int))) ∧ w'.cell? ⟨E, 1, none⟩ = some (.slice A1 yn c1) ∧ w'.cell? ⟨E, 2, none⟩ = some (.int .i64 oa) ∧ w'.cell? ⟨E, 3, none⟩ = some (.slice fA 0 xc) ∧ w'.cell? ⟨E, 4, none⟩ = some (.int .i64 ds) ∧ w'.cell? ⟨E, 5, none⟩ = some (.int .i64 dm) ∧ w'.cell? ⟨E, 6, none⟩ = some (.slice xF 0 xfc) ∧ w'.cell? ⟨E, 7, none⟩ = some (.slice (some ⟨eb, eo, none⟩) rm c7) ∧ w'.cell? ⟨E, 8, none⟩ = some (.slice xH 0 xhc)) ∧ w'.cell? ⟨eb, eo + i, none⟩ = some (.int .u64 (mvZ b x)))
                                (first | with_reducible exact HSE.out _ hkd.out | with_reducible exact HSE.out _ h2.out | with_reducible exact HSE.out _ hka.out | with_reducible exact HSE.out _ hYt.out | with_reducible exact HSE.out _ (h2.out.alloc h2.out.size _) | with_reducible exact HSE.out _ (set7bb h2.out hYt.out.size _ _ _ _ _ _ _))
                                (first
                                  | (go_at_call 10; have Q := CE.out _ hkd.out; (with_reducible refine Q.mono ?_); clear Q; rintro e w2 ⟨⟨uk, un, ug, uA, uln, ulc, uu, us, uB, um, udd, rfl, htv⟩, hb2⟩; have h2 := Lib.hid (hkd.out.trans (hb2.mono hkd.out.size)); have h20 := Lib.hid (hbd0.out.trans (hb2.mono hbd0.out.size)); replace htv := Lib.hid htv; clear hb2)
                                  | (go_at_call 10; have Q := CE.out _ hka.out; (with_reducible refine Q.mono ?_); clear Q; rintro e w2 ⟨⟨uk, un, ug, uA, uln, ulc, uu, us, uB, um, udd, rfl, htv⟩, hb2⟩; have ht : w2.heap[Y.heap.size]? = some (.cells #[.int .i64 0, .int .i64 0, .bool false, .slice none 0 0, .int .u64 0, .string ⟨#[]⟩, .slice none 0 0] 40 (0, 0)) := (hb2.block Y.heap.size (by simp)).trans (heap_alloc_new Y _); have t0 : w2.cell? ⟨Y.heap.size, 0, none⟩ = some (.int .i64 0) := (cell_of_row w2 Y.heap.size 0 _ _ (0, 0) ht).trans rfl; have f0 : w2.frozen? ⟨Y.heap.size, 0, none⟩ = false := frozen_of_row w2 Y.heap.size 0 _ _ ht; have t1 : w2.cell? ⟨Y.heap.size, 1, none⟩ = some (.int .i64 0) := (cell_of_row w2 Y.heap.size 1 _ _ (0, 0) ht).trans rfl; have f1 : w2.frozen? ⟨Y.heap.size, 1, none⟩ = false := frozen_of_row w2 Y.heap.size 1 _ _ ht; have t2 : w2.cell? ⟨Y.heap.size, 2, none⟩ = some (.bool false) := (cell_of_row w2 Y.heap.size 2 _ _ (0, 0) ht).trans rfl; have f2 : w2.frozen? ⟨Y.heap.size, 2, none⟩ = false := frozen_of_row w2 Y.heap.size 2 _ _ ht; have t3 : w2.cell? ⟨Y.heap.size, 3, none⟩ = some (.slice none 0 0) := (cell_of_row w2 Y.heap.size 3 _ _ (0, 0) ht).trans rfl; have f3 : w2.frozen? ⟨Y.heap.size, 3, none⟩ = false := frozen_of_row w2 Y.heap.size 3 _ _ ht; have t4 : w2.cell? ⟨Y.heap.size, 4, none⟩ = some (.int .u64 0) := (cell_of_row w2 Y.heap.size 4 _ _ (0, 0) ht).trans rfl; have f4 : w2.frozen? ⟨Y.heap.size, 4, none⟩ = false := frozen_of_row w2 Y.heap.size 4 _ _ ht; have t5 : w2.cell? ⟨Y.heap.size, 5, none⟩ = some (.string ⟨#[]⟩) := (cell_of_row w2 Y.heap.size 5 _ _ (0, 0) ht).trans rfl; have f5 : w2.frozen? ⟨Y.heap.size, 5, none⟩ = false := frozen_of_row w2 Y.heap.size 5 _ _ ht; have t6 : w2.cell? ⟨Y.heap.size, 6, none⟩ = some (.slice none 0 0) := (cell_of_row w2 Y.heap.size 6 _ _ (0, 0) ht).trans rfl; have f6 : w2.frozen? ⟨Y.heap.size, 6, none⟩ = false := frozen_of_row w2 Y.heap.size 6 _ _ ht; replace ht := Lib.hid ht; have h2 := Lib.hid (hka.out.trans (hb2.mono hka.out.size)); have h20 := Lib.hid (hba0.out.trans (hb2.mono hba0.out.size)); replace htv := Lib.hid htv; clear hb2))
                              · have hTu : Hid ((w2.alloc (.cells #[.int .i64 uk, .int .i64 un, .bool ug, .slice uA uln ulc, .int .u64 uu, .string us, .slice uB um udd] 40)).heap[w2.heap.size]? = some (.cells #[.int .i64 uk, .int .i64 un, .bool ug, .slice uA uln ulc, .int .u64 uu, .string us, .slice uB um udd] 40 (0, 0))) := Lib.hid (heap_alloc_new w2 _)
                                have hYu : Hid (Below X.heap.size X (w2.alloc (.cells #[.int .i64 uk, .int .i64 un, .bool ug, .slice uA uln ulc, .int .u64 uu, .string us, .slice uB um udd] 40))) := Lib.hid (h2.out.alloc h2.out.size _)
                                have hZu : Hid (Below Y.heap.size Y (w2.alloc (.cells #[.int .i64 uk, .int .i64 un, .bool ug, .slice uA uln ulc, .int .u64 uu, .string us, .slice uB um udd] 40))) := Lib.hid (h20.out.alloc h20.out.size _)
                                have tvu : Hid (TV (w2.alloc (.cells #[.int .i64 uk, .int .i64 un, .bool ug, .slice uA uln ulc, .int .u64 uu, .string us, .slice uB um udd] 40)) ⟨uk, un, ug, uA, uln, ulc, uu, us, uB, um, udd⟩ tr) := Lib.hid (htv.out.tv.bel ((Below.refl _ w2).alloc (Nat.le_refl _) _))
                                have hTz := Lib.hid ((hZu.out.block T (Array.getElem?_eq_some_iff.1 hTt.out).1).trans hTt.out)
                                have tvz := Lib.hid (tvt.out.bel hZu.out)
                                clear htv h2 h20 hkd hka hbd0 hba0
                                generalize w2.alloc (.cells #[.int .i64 uk, .int .i64 un, .bool ug, .slice uA uln ulc, .int .u64 uu, .string us, .slice uB um udd] 40) = Z at *
                                generalize w2.heap.size = U at *
                                have m1 := hTz.out
                                have m2 := hTu.out
                                have t0 : Z.cell? ⟨T, 0, none⟩ = some (.int .i64 tk) := (cell_of_row Z T 0 _ _ (0, 0) m1).trans rfl
                                have t1 : Z.cell? ⟨T, 1, none⟩ = some (.int .i64 tn) := (cell_of_row Z T 1 _ _ (0, 0) m1).trans rfl
                                have t2 : Z.cell? ⟨T, 2, none⟩ = some (.bool tg) := (cell_of_row Z T 2 _ _ (0, 0) m1).trans rfl
                                have t3 : Z.cell? ⟨T, 3, none⟩ = some (.slice tA tln tlc) := (cell_of_row Z T 3 _ _ (0, 0) m1).trans rfl
                                have t4 : Z.cell? ⟨T, 4, none⟩ = some (.int .u64 tu) := (cell_of_row Z T 4 _ _ (0, 0) m1).trans rfl
                                have t5 : Z.cell? ⟨T, 5, none⟩ = some (.string ts) := (cell_of_row Z T 5 _ _ (0, 0) m1).trans rfl
                                have t6 : Z.cell? ⟨T, 6, none⟩ = some (.slice tB tm tdd) := (cell_of_row Z T 6 _ _ (0, 0) m1).trans rfl
                                have u0 : Z.cell? ⟨U, 0, none⟩ = some (.int .i64 uk) := (cell_of_row Z U 0 _ _ (0, 0) m2).trans rfl
                                have u1 : Z.cell? ⟨U, 1, none⟩ = some (.int .i64 un) := (cell_of_row Z U 1 _ _ (0, 0) m2).trans rfl
                                have u2 : Z.cell? ⟨U, 2, none⟩ = some (.bool ug) := (cell_of_row Z U 2 _ _ (0, 0) m2).trans rfl
                                have u3 : Z.cell? ⟨U, 3, none⟩ = some (.slice uA uln ulc) := (cell_of_row Z U 3 _ _ (0, 0) m2).trans rfl
                                have u4 : Z.cell? ⟨U, 4, none⟩ = some (.int .u64 uu) := (cell_of_row Z U 4 _ _ (0, 0) m2).trans rfl
                                have u5 : Z.cell? ⟨U, 5, none⟩ = some (.string us) := (cell_of_row Z U 5 _ _ (0, 0) m2).trans rfl
                                have u6 : Z.cell? ⟨U, 6, none⟩ = some (.slice uB um udd) := (cell_of_row Z U 6 _ _ (0, 0) m2).trans rfl
                                clear m1 m2 hTt hTz hTu
                                have CS9 := Lib.hid (same_two tvz.out tvu.out)
                                go_wp2_with (go_at_call 13; (with_reducible refine CS9.out.mono ?_); rintro e w5 ⟨rfl, hb5⟩; replace hYu := Lib.hid (hYu.out.trans (hb5.mono hYu.out.size)); clear hb5)
                                exact ⟨⟨i + 1, by omega, rfl, hYu⟩, by simp [intOf]; omega⟩
                              · have hTu : Hid ((((((((w2.setCell ⟨Y.heap.size, 0, none⟩ (.int .i64 uk)).setCell ⟨Y.heap.size, 1, none⟩ (.int .i64 un)).setCell ⟨Y.heap.size, 2, none⟩ (.bool ug)).setCell ⟨Y.heap.size, 3, none⟩ (.slice uA uln ulc)).setCell ⟨Y.heap.size, 4, none⟩ (.int .u64 uu)).setCell ⟨Y.heap.size, 5, none⟩ (.string us)).setCell ⟨Y.heap.size, 6, none⟩ (.slice uB um udd)).heap[Y.heap.size]? = some (.cells #[.int .i64 uk, .int .i64 un, .bool ug, .slice uA uln ulc, .int .u64 uu, .string us, .slice uB um udd] 40 (0, 0))) := Lib.hid (set7hh ht.out (.int .i64 uk) (.int .i64 un) (.bool ug) (.slice uA uln ulc) (.int .u64 uu) (.string us) (.slice uB um udd))
                                have hYu : Hid (Below X.heap.size X (((((((w2.setCell ⟨Y.heap.size, 0, none⟩ (.int .i64 uk)).setCell ⟨Y.heap.size, 1, none⟩ (.int .i64 un)).setCell ⟨Y.heap.size, 2, none⟩ (.bool ug)).setCell ⟨Y.heap.size, 3, none⟩ (.slice uA uln ulc)).setCell ⟨Y.heap.size, 4, none⟩ (.int .u64 uu)).setCell ⟨Y.heap.size, 5, none⟩ (.string us)).setCell ⟨Y.heap.size, 6, none⟩ (.slice uB um udd))) := Lib.hid (set7bb h2.out hYt.out.size _ _ _ _ _ _ _)
                                have hZu : Hid (Below Y.heap.size Y (((((((w2.setCell ⟨Y.heap.size, 0, none⟩ (.int .i64 uk)).setCell ⟨Y.heap.size, 1, none⟩ (.int .i64 un)).setCell ⟨Y.heap.size, 2, none⟩ (.bool ug)).setCell ⟨Y.heap.size, 3, none⟩ (.slice uA uln ulc)).setCell ⟨Y.heap.size, 4, none⟩ (.int .u64 uu)).setCell ⟨Y.heap.size, 5, none⟩ (.string us)).setCell ⟨Y.heap.size, 6, none⟩ (.slice uB um udd))) := Lib.hid (set7bb h20.out (Nat.le_refl _) _ _ _ _ _ _ _)
                                have tvu : Hid (TV (((((((w2.setCell ⟨Y.heap.size, 0, none⟩ (.int .i64 uk)).setCell ⟨Y.heap.size, 1, none⟩ (.int .i64 un)).setCell ⟨Y.heap.size, 2, none⟩ (.bool ug)).setCell ⟨Y.heap.size, 3, none⟩ (.slice uA uln ulc)).setCell ⟨Y.heap.size, 4, none⟩ (.int .u64 uu)).setCell ⟨Y.heap.size, 5, none⟩ (.string us)).setCell ⟨Y.heap.size, 6, none⟩ (.slice uB um udd)) ⟨uk, un, ug, uA, uln, ulc, uu, us, uB, um, udd⟩ tr) := Lib.hid (htv.out.keep (set7kk (by simp) _ _ _ _ _ _ _)).tv
                                have hTz := Lib.hid ((hZu.out.block T (Array.getElem?_eq_some_iff.1 hTt.out).1).trans hTt.out)
                                have tvz := Lib.hid (tvt.out.bel hZu.out)
                                clear htv h2 h20 hkd hka hbd0 hba0 t0 t1 t2 t3 t4 t5 t6 f0 f1 f2 f3 f4 f5 f6 ht
                                generalize ((((((w2.setCell ⟨Y.heap.size, 0, none⟩ (.int .i64 uk)).setCell ⟨Y.heap.size, 1, none⟩ (.int .i64 un)).setCell ⟨Y.heap.size, 2, none⟩ (.bool ug)).setCell ⟨Y.heap.size, 3, none⟩ (.slice uA uln ulc)).setCell ⟨Y.heap.size, 4, none⟩ (.int .u64 uu)).setCell ⟨Y.heap.size, 5, none⟩ (.string us)).setCell ⟨Y.heap.size, 6, none⟩ (.slice uB um udd) = Z at *
                                generalize Y.heap.size = U at *
                                have m1 := hTz.out
                                have m2 := hTu.out
                                have t0 : Z.cell? ⟨T, 0, none⟩ = some (.int .i64 tk) := (cell_of_row Z T 0 _ _ (0, 0) m1).trans rfl
                                have t1 : Z.cell? ⟨T, 1, none⟩ = some (.int .i64 tn) := (cell_of_row Z T 1 _ _ (0, 0) m1).trans rfl
                                have t2 : Z.cell? ⟨T, 2, none⟩ = some (.bool tg) := (cell_of_row Z T 2 _ _ (0, 0) m1).trans rfl
                                have t3 : Z.cell? ⟨T, 3, none⟩ = some (.slice tA tln tlc) := (cell_of_row Z T 3 _ _ (0, 0) m1).trans rfl
                                have t4 : Z.cell? ⟨T, 4, none⟩ = some (.int .u64 tu) := (cell_of_row Z T 4 _ _ (0, 0) m1).trans rfl
                                have t5 : Z.cell? ⟨T, 5, none⟩ = some (.string ts) := (cell_of_row Z T 5 _ _ (0, 0) m1).trans rfl
                                have t6 : Z.cell? ⟨T, 6, none⟩ = some (.slice tB tm tdd) := (cell_of_row Z T 6 _ _ (0, 0) m1).trans rfl
                                have u0 : Z.cell? ⟨U, 0, none⟩ = some (.int .i64 uk) := (cell_of_row Z U 0 _ _ (0, 0) m2).trans rfl
                                have u1 : Z.cell? ⟨U, 1, none⟩ = some (.int .i64 un) := (cell_of_row Z U 1 _ _ (0, 0) m2).trans rfl
                                have u2 : Z.cell? ⟨U, 2, none⟩ = some (.bool ug) := (cell_of_row Z U 2 _ _ (0, 0) m2).trans rfl
                                have u3 : Z.cell? ⟨U, 3, none⟩ = some (.slice uA uln ulc) := (cell_of_row Z U 3 _ _ (0, 0) m2).trans rfl
                                have u4 : Z.cell? ⟨U, 4, none⟩ = some (.int .u64 uu) := (cell_of_row Z U 4 _ _ (0, 0) m2).trans rfl
                                have u5 : Z.cell? ⟨U, 5, none⟩ = some (.string us) := (cell_of_row Z U 5 _ _ (0, 0) m2).trans rfl
                                have u6 : Z.cell? ⟨U, 6, none⟩ = some (.slice uB um udd) := (cell_of_row Z U 6 _ _ (0, 0) m2).trans rfl
                                clear m1 m2 hTt hTz hTu
                                have CS9 := Lib.hid (same_two tvz.out tvu.out)
                                go_wp2_with (go_at_call 13; (with_reducible refine CS9.out.mono ?_); rintro e w5 ⟨rfl, hb5⟩; replace hYu := Lib.hid (hYu.out.trans (hb5.mono hYu.out.size)); clear hb5)
                                exact ⟨⟨i + 1, by omega, rfl, hYu⟩, by simp [intOf]; omega⟩
                            · have hTt : Hid ((((((((w2.setCell ⟨wr.heap.size, 0, none⟩ (.int .i64 tk)).setCell ⟨wr.heap.size, 1, none⟩ (.int .i64 tn)).setCell ⟨wr.heap.size, 2, none⟩ (.bool tg)).setCell ⟨wr.heap.size, 3, none⟩ (.slice tA tln tlc)).setCell ⟨wr.heap.size, 4, none⟩ (.int .u64 tu)).setCell ⟨wr.heap.size, 5, none⟩ (.string ts)).setCell ⟨wr.heap.size, 6, none⟩ (.slice tB tm tdd)).heap[wr.heap.size]? = some (.cells #[.int .i64 tk, .int .i64 tn, .bool tg, .slice tA tln tlc, .int .u64 tu, .string ts, .slice tB tm tdd] 40 (0, 0))) := Lib.hid (set7hh ht.out (.int .i64 tk) (.int .i64 tn) (.bool tg) (.slice tA tln tlc) (.int .u64 tu) (.string ts) (.slice tB tm tdd))
                              have hYt : Hid (Below X.heap.size X (((((((w2.setCell ⟨wr.heap.size, 0, none⟩ (.int .i64 tk)).setCell ⟨wr.heap.size, 1, none⟩ (.int .i64 tn)).setCell ⟨wr.heap.size, 2, none⟩ (.bool tg)).setCell ⟨wr.heap.size, 3, none⟩ (.slice tA tln tlc)).setCell ⟨wr.heap.size, 4, none⟩ (.int .u64 tu)).setCell ⟨wr.heap.size, 5, none⟩ (.string ts)).setCell ⟨wr.heap.size, 6, none⟩ (.slice tB tm tdd))) := Lib.hid (set7bb h2.out hk.out.size _ _ _ _ _ _ _)
                              have hZt : Hid (Below wr.heap.size wr (((((((w2.setCell ⟨wr.heap.size, 0, none⟩ (.int .i64 tk)).setCell ⟨wr.heap.size, 1, none⟩ (.int .i64 tn)).setCell ⟨wr.heap.size, 2, none⟩ (.bool tg)).setCell ⟨wr.heap.size, 3, none⟩ (.slice tA tln tlc)).setCell ⟨wr.heap.size, 4, none⟩ (.int .u64 tu)).setCell ⟨wr.heap.size, 5, none⟩ (.string ts)).setCell ⟨wr.heap.size, 6, none⟩ (.slice tB tm tdd))) := Lib.hid (set7bb h20.out (Nat.le_refl _) _ _ _ _ _ _ _)
                              have tvt : Hid (TV (((((((w2.setCell ⟨wr.heap.size, 0, none⟩ (.int .i64 tk)).setCell ⟨wr.heap.size, 1, none⟩ (.int .i64 tn)).setCell ⟨wr.heap.size, 2, none⟩ (.bool tg)).setCell ⟨wr.heap.size, 3, none⟩ (.slice tA tln tlc)).setCell ⟨wr.heap.size, 4, none⟩ (.int .u64 tu)).setCell ⟨wr.heap.size, 5, none⟩ (.string ts)).setCell ⟨wr.heap.size, 6, none⟩ (.slice tB tm tdd)) ⟨tk, tn, tg, tA, tln, tlc, tu, ts, tB, tm, tdd⟩ tr) := Lib.hid (htv.out.keep (set7kk (by simp) _ _ _ _ _ _ _)).tv
                              clear htv h2 h20 hkd hka hbd0 hba0 t0 t1 t2 t3 t4 t5 t6 f0 f1 f2 f3 f4 f5 f6 ht
                              generalize ((((((w2.setCell ⟨wr.heap.size, 0, none⟩ (.int .i64 tk)).setCell ⟨wr.heap.size, 1, none⟩ (.int .i64 tn)).setCell ⟨wr.heap.size, 2, none⟩ (.bool tg)).setCell ⟨wr.heap.size, 3, none⟩ (.slice tA tln tlc)).setCell ⟨wr.heap.size, 4, none⟩ (.int .u64 tu)).setCell ⟨wr.heap.size, 5, none⟩ (.string ts)).setCell ⟨wr.heap.size, 6, none⟩ (.slice tB tm tdd) = Y at *
                              generalize wr.heap.size = T at *
                              clear q0 q1 q2 q3 q4 q5 q6 q7 q8
                              clear y0
                              obtain ⟨⟨p0, p1, p2, p3, p4, p5, p6, p7, p8⟩, z0⟩ := HSE.out _ hYt.out
                              have hkd : Hid (Below X.heap.size X Y.drew) := Lib.hid hYt.out.drew
                              have hka : Hid (Below X.heap.size X (Y.alloc (.cells #[.int .i64 0, .int .i64 0, .bool false, .slice none 0 0, .int .u64 0, .string ⟨#[]⟩, .slice none 0 0] 40)).drew) := Lib.hid (hYt.out.alloc hYt.out.size _).drew
                              have hbd0 : Hid (Below Y.heap.size Y Y.drew) := Lib.hid (Below.refl _ _).drew
                              have hba0 : Hid (Below Y.heap.size Y (Y.alloc (.cells #[.int .i64 0, .int .i64 0, .bool false, .slice none 0 0, .int .u64 0, .string ⟨#[]⟩, .slice none 0 0] 40)).drew) := Lib.hid ((Below.refl _ _).alloc (Nat.le_refl _) _).drew
                              go_wp2_with fail
                              go_region_held3 (fun w' => (w'.cell? ⟨E, 0, none⟩ = some (.int .i64 (ya + (b : Int))) ∧ w'.cell? ⟨E, 1, none⟩ = some (.slice A1 yn c1) ∧ w'.cell? ⟨E, 2, none⟩ = some (.int .i64 oa) ∧ w'.cell? ⟨E, 3, none⟩ = some (.slice fA 0 xc) ∧ w'.cell? ⟨E, 4, none⟩ = some (.int .i64 ds) ∧ w'.cell? ⟨E, 5, none⟩ = some (.int .i64 dm) ∧ w'.cell? ⟨E, 6, none⟩ = some (.slice xF 0 xfc) ∧ w'.cell? ⟨E, 7, none⟩ = some (.slice (some ⟨eb, eo, none⟩) rm c7) ∧ w'.cell? ⟨E, 8, none⟩ = some (.slice xH 0 xhc)) ∧ w'.cell? ⟨eb, eo + i, none⟩ = some (.int .u64 (mvZ b x)))
                                (first | with_reducible exact HSE.out _ hkd.out | with_reducible exact HSE.out _ h2.out | with_reducible exact HSE.out _ hka.out | with_reducible exact HSE.out _ hYt.out | with_reducible exact HSE.out _ (h2.out.alloc h2.out.size _) | with_reducible exact HSE.out _ (set7bb h2.out hYt.out.size _ _ _ _ _ _ _))
                                (first
                                  | (go_at_call 10; have Q := CE.out _ hkd.out; (with_reducible refine Q.mono ?_); clear Q; rintro e w2 ⟨⟨uk, un, ug, uA, uln, ulc, uu, us, uB, um, udd, rfl, htv⟩, hb2⟩; have h2 := Lib.hid (hkd.out.trans (hb2.mono hkd.out.size)); have h20 := Lib.hid (hbd0.out.trans (hb2.mono hbd0.out.size)); replace htv := Lib.hid htv; clear hb2)
                                  | (go_at_call 10; have Q := CE.out _ hka.out; (with_reducible refine Q.mono ?_); clear Q; rintro e w2 ⟨⟨uk, un, ug, uA, uln, ulc, uu, us, uB, um, udd, rfl, htv⟩, hb2⟩; have ht : w2.heap[Y.heap.size]? = some (.cells #[.int .i64 0, .int .i64 0, .bool false, .slice none 0 0, .int .u64 0, .string ⟨#[]⟩, .slice none 0 0] 40 (0, 0)) := (hb2.block Y.heap.size (by simp)).trans (heap_alloc_new Y _); have t0 : w2.cell? ⟨Y.heap.size, 0, none⟩ = some (.int .i64 0) := (cell_of_row w2 Y.heap.size 0 _ _ (0, 0) ht).trans rfl; have f0 : w2.frozen? ⟨Y.heap.size, 0, none⟩ = false := frozen_of_row w2 Y.heap.size 0 _ _ ht; have t1 : w2.cell? ⟨Y.heap.size, 1, none⟩ = some (.int .i64 0) := (cell_of_row w2 Y.heap.size 1 _ _ (0, 0) ht).trans rfl; have f1 : w2.frozen? ⟨Y.heap.size, 1, none⟩ = false := frozen_of_row w2 Y.heap.size 1 _ _ ht; have t2 : w2.cell? ⟨Y.heap.size, 2, none⟩ = some (.bool false) := (cell_of_row w2 Y.heap.size 2 _ _ (0, 0) ht).trans rfl; have f2 : w2.frozen? ⟨Y.heap.size, 2, none⟩ = false := frozen_of_row w2 Y.heap.size 2 _ _ ht; have t3 : w2.cell? ⟨Y.heap.size, 3, none⟩ = some (.slice none 0 0) := (cell_of_row w2 Y.heap.size 3 _ _ (0, 0) ht).trans rfl; have f3 : w2.frozen? ⟨Y.heap.size, 3, none⟩ = false := frozen_of_row w2 Y.heap.size 3 _ _ ht; have t4 : w2.cell? ⟨Y.heap.size, 4, none⟩ = some (.int .u64 0) := (cell_of_row w2 Y.heap.size 4 _ _ (0, 0) ht).trans rfl; have f4 : w2.frozen? ⟨Y.heap.size, 4, none⟩ = false := frozen_of_row w2 Y.heap.size 4 _ _ ht; have t5 : w2.cell? ⟨Y.heap.size, 5, none⟩ = some (.string ⟨#[]⟩) := (cell_of_row w2 Y.heap.size 5 _ _ (0, 0) ht).trans rfl; have f5 : w2.frozen? ⟨Y.heap.size, 5, none⟩ = false := frozen_of_row w2 Y.heap.size 5 _ _ ht; have t6 : w2.cell? ⟨Y.heap.size, 6, none⟩ = some (.slice none 0 0) := (cell_of_row w2 Y.heap.size 6 _ _ (0, 0) ht).trans rfl; have f6 : w2.frozen? ⟨Y.heap.size, 6, none⟩ = false := frozen_of_row w2 Y.heap.size 6 _ _ ht; replace ht := Lib.hid ht; have h2 := Lib.hid (hka.out.trans (hb2.mono hka.out.size)); have h20 := Lib.hid (hba0.out.trans (hb2.mono hba0.out.size)); replace htv := Lib.hid htv; clear hb2))
                              · have hTu : Hid ((w2.alloc (.cells #[.int .i64 uk, .int .i64 un, .bool ug, .slice uA uln ulc, .int .u64 uu, .string us, .slice uB um udd] 40)).heap[w2.heap.size]? = some (.cells #[.int .i64 uk, .int .i64 un, .bool ug, .slice uA uln ulc, .int .u64 uu, .string us, .slice uB um udd] 40 (0, 0))) := Lib.hid (heap_alloc_new w2 _)
                                have hYu : Hid (Below X.heap.size X (w2.alloc (.cells #[.int .i64 uk, .int .i64 un, .bool ug, .slice uA uln ulc, .int .u64 uu, .string us, .slice uB um udd] 40))) := Lib.hid (h2.out.alloc h2.out.size _)
                                have hZu : Hid (Below Y.heap.size Y (w2.alloc (.cells #[.int .i64 uk, .int .i64 un, .bool ug, .slice uA uln ulc, .int .u64 uu, .string us, .slice uB um udd] 40))) := Lib.hid (h20.out.alloc h20.out.size _)
                                have tvu : Hid (TV (w2.alloc (.cells #[.int .i64 uk, .int .i64 un, .bool ug, .slice uA uln ulc, .int .u64 uu, .string us, .slice uB um udd] 40)) ⟨uk, un, ug, uA, uln, ulc, uu, us, uB, um, udd⟩ tr) := Lib.hid (htv.out.tv.bel ((Below.refl _ w2).alloc (Nat.le_refl _) _))
                                have hTz := Lib.hid ((hZu.out.block T (Array.getElem?_eq_some_iff.1 hTt.out).1).trans hTt.out)
                                have tvz := Lib.hid (tvt.out.bel hZu.out)
                                clear htv h2 h20 hkd hka hbd0 hba0
                                generalize w2.alloc (.cells #[.int .i64 uk, .int .i64 un, .bool ug, .slice uA uln ulc, .int .u64 uu, .string us, .slice uB um udd] 40) = Z at *
                                generalize w2.heap.size = U at *
                                have m1 := hTz.out
                                have m2 := hTu.out
                                have t0 : Z.cell? ⟨T, 0, none⟩ = some (.int .i64 tk) := (cell_of_row Z T 0 _ _ (0, 0) m1).trans rfl
                                have t1 : Z.cell? ⟨T, 1, none⟩ = some (.int .i64 tn) := (cell_of_row Z T 1 _ _ (0, 0) m1).trans rfl
                                have t2 : Z.cell? ⟨T, 2, none⟩ = some (.bool tg) := (cell_of_row Z T 2 _ _ (0, 0) m1).trans rfl
                                have t3 : Z.cell? ⟨T, 3, none⟩ = some (.slice tA tln tlc) := (cell_of_row Z T 3 _ _ (0, 0) m1).trans rfl
                                have t4 : Z.cell? ⟨T, 4, none⟩ = some (.int .u64 tu) := (cell_of_row Z T 4 _ _ (0, 0) m1).trans rfl
                                have t5 : Z.cell? ⟨T, 5, none⟩ = some (.string ts) := (cell_of_row Z T 5 _ _ (0, 0) m1).trans rfl
                                have t6 : Z.cell? ⟨T, 6, none⟩ = some (.slice tB tm tdd) := (cell_of_row Z T 6 _ _ (0, 0) m1).trans rfl
                                have u0 : Z.cell? ⟨U, 0, none⟩ = some (.int .i64 uk) := (cell_of_row Z U 0 _ _ (0, 0) m2).trans rfl
                                have u1 : Z.cell? ⟨U, 1, none⟩ = some (.int .i64 un) := (cell_of_row Z U 1 _ _ (0, 0) m2).trans rfl
                                have u2 : Z.cell? ⟨U, 2, none⟩ = some (.bool ug) := (cell_of_row Z U 2 _ _ (0, 0) m2).trans rfl
                                have u3 : Z.cell? ⟨U, 3, none⟩ = some (.slice uA uln ulc) := (cell_of_row Z U 3 _ _ (0, 0) m2).trans rfl
                                have u4 : Z.cell? ⟨U, 4, none⟩ = some (.int .u64 uu) := (cell_of_row Z U 4 _ _ (0, 0) m2).trans rfl
                                have u5 : Z.cell? ⟨U, 5, none⟩ = some (.string us) := (cell_of_row Z U 5 _ _ (0, 0) m2).trans rfl
                                have u6 : Z.cell? ⟨U, 6, none⟩ = some (.slice uB um udd) := (cell_of_row Z U 6 _ _ (0, 0) m2).trans rfl
                                clear m1 m2 hTt hTz hTu
                                have CS9 := Lib.hid (same_two tvz.out tvu.out)
                                go_wp2_with (go_at_call 13; (with_reducible refine CS9.out.mono ?_); rintro e w5 ⟨rfl, hb5⟩; replace hYu := Lib.hid (hYu.out.trans (hb5.mono hYu.out.size)); clear hb5)
                                exact ⟨⟨i + 1, by omega, rfl, hYu⟩, by simp [intOf]; omega⟩
                              · have hTu : Hid ((((((((w2.setCell ⟨Y.heap.size, 0, none⟩ (.int .i64 uk)).setCell ⟨Y.heap.size, 1, none⟩ (.int .i64 un)).setCell ⟨Y.heap.size, 2, none⟩ (.bool ug)).setCell ⟨Y.heap.size, 3, none⟩ (.slice uA uln ulc)).setCell ⟨Y.heap.size, 4, none⟩ (.int .u64 uu)).setCell ⟨Y.heap.size, 5, none⟩ (.string us)).setCell ⟨Y.heap.size, 6, none⟩ (.slice uB um udd)).heap[Y.heap.size]? = some (.cells #[.int .i64 uk, .int .i64 un, .bool ug, .slice uA uln ulc, .int .u64 uu, .string us, .slice uB um udd] 40 (0, 0))) := Lib.hid (set7hh ht.out (.int .i64 uk) (.int .i64 un) (.bool ug) (.slice uA uln ulc) (.int .u64 uu) (.string us) (.slice uB um udd))
                                have hYu : Hid (Below X.heap.size X (((((((w2.setCell ⟨Y.heap.size, 0, none⟩ (.int .i64 uk)).setCell ⟨Y.heap.size, 1, none⟩ (.int .i64 un)).setCell ⟨Y.heap.size, 2, none⟩ (.bool ug)).setCell ⟨Y.heap.size, 3, none⟩ (.slice uA uln ulc)).setCell ⟨Y.heap.size, 4, none⟩ (.int .u64 uu)).setCell ⟨Y.heap.size, 5, none⟩ (.string us)).setCell ⟨Y.heap.size, 6, none⟩ (.slice uB um udd))) := Lib.hid (set7bb h2.out hYt.out.size _ _ _ _ _ _ _)
                                have hZu : Hid (Below Y.heap.size Y (((((((w2.setCell ⟨Y.heap.size, 0, none⟩ (.int .i64 uk)).setCell ⟨Y.heap.size, 1, none⟩ (.int .i64 un)).setCell ⟨Y.heap.size, 2, none⟩ (.bool ug)).setCell ⟨Y.heap.size, 3, none⟩ (.slice uA uln ulc)).setCell ⟨Y.heap.size, 4, none⟩ (.int .u64 uu)).setCell ⟨Y.heap.size, 5, none⟩ (.string us)).setCell ⟨Y.heap.size, 6, none⟩ (.slice uB um udd))) := Lib.hid (set7bb h20.out (Nat.le_refl _) _ _ _ _ _ _ _)
                                have tvu : Hid (TV (((((((w2.setCell ⟨Y.heap.size, 0, none⟩ (.int .i64 uk)).setCell ⟨Y.heap.size, 1, none⟩ (.int .i64 un)).setCell ⟨Y.heap.size, 2, none⟩ (.bool ug)).setCell ⟨Y.heap.size, 3, none⟩ (.slice uA uln ulc)).setCell ⟨Y.heap.size, 4, none⟩ (.int .u64 uu)).setCell ⟨Y.heap.size, 5, none⟩ (.string us)).setCell ⟨Y.heap.size, 6, none⟩ (.slice uB um udd)) ⟨uk, un, ug, uA, uln, ulc, uu, us, uB, um, udd⟩ tr) := Lib.hid (htv.out.keep (set7kk (by simp) _ _ _ _ _ _ _)).tv
                                have hTz := Lib.hid ((hZu.out.block T (Array.getElem?_eq_some_iff.1 hTt.out).1).trans hTt.out)
                                have tvz := Lib.hid (tvt.out.bel hZu.out)
                                clear htv h2 h20 hkd hka hbd0 hba0 t0 t1 t2 t3 t4 t5 t6 f0 f1 f2 f3 f4 f5 f6 ht
                                generalize ((((((w2.setCell ⟨Y.heap.size, 0, none⟩ (.int .i64 uk)).setCell ⟨Y.heap.size, 1, none⟩ (.int .i64 un)).setCell ⟨Y.heap.size, 2, none⟩ (.bool ug)).setCell ⟨Y.heap.size, 3, none⟩ (.slice uA uln ulc)).setCell ⟨Y.heap.size, 4, none⟩ (.int .u64 uu)).setCell ⟨Y.heap.size, 5, none⟩ (.string us)).setCell ⟨Y.heap.size, 6, none⟩ (.slice uB um udd) = Z at *
                                generalize Y.heap.size = U at *
                                have m1 := hTz.out
                                have m2 := hTu.out
                                have t0 : Z.cell? ⟨T, 0, none⟩ = some (.int .i64 tk) := (cell_of_row Z T 0 _ _ (0, 0) m1).trans rfl
                                have t1 : Z.cell? ⟨T, 1, none⟩ = some (.int .i64 tn) := (cell_of_row Z T 1 _ _ (0, 0) m1).trans rfl
                                have t2 : Z.cell? ⟨T, 2, none⟩ = some (.bool tg) := (cell_of_row Z T 2 _ _ (0, 0) m1).trans rfl
                                have t3 : Z.cell? ⟨T, 3, none⟩ = some (.slice tA tln tlc) := (cell_of_row Z T 3 _ _ (0, 0) m1).trans rfl
                                have t4 : Z.cell? ⟨T, 4, none⟩ = some (.int .u64 tu) := (cell_of_row Z T 4 _ _ (0, 0) m1).trans rfl
                                have t5 : Z.cell? ⟨T, 5, none⟩ = some (.string ts) := (cell_of_row Z T 5 _ _ (0, 0) m1).trans rfl
                                have t6 : Z.cell? ⟨T, 6, none⟩ = some (.slice tB tm tdd) := (cell_of_row Z T 6 _ _ (0, 0) m1).trans rfl
                                have u0 : Z.cell? ⟨U, 0, none⟩ = some (.int .i64 uk) := (cell_of_row Z U 0 _ _ (0, 0) m2).trans rfl
                                have u1 : Z.cell? ⟨U, 1, none⟩ = some (.int .i64 un) := (cell_of_row Z U 1 _ _ (0, 0) m2).trans rfl
                                have u2 : Z.cell? ⟨U, 2, none⟩ = some (.bool ug) := (cell_of_row Z U 2 _ _ (0, 0) m2).trans rfl
                                have u3 : Z.cell? ⟨U, 3, none⟩ = some (.slice uA uln ulc) := (cell_of_row Z U 3 _ _ (0, 0) m2).trans rfl
                                have u4 : Z.cell? ⟨U, 4, none⟩ = some (.int .u64 uu) := (cell_of_row Z U 4 _ _ (0, 0) m2).trans rfl
                                have u5 : Z.cell? ⟨U, 5, none⟩ = some (.string us) := (cell_of_row Z U 5 _ _ (0, 0) m2).trans rfl
                                have u6 : Z.cell? ⟨U, 6, none⟩ = some (.slice uB um udd) := (cell_of_row Z U 6 _ _ (0, 0) m2).trans rfl
                                clear m1 m2 hTt hTz hTu
                                have CS9 := Lib.hid (same_two tvz.out tvu.out)
                                go_wp2_with (go_at_call 13; (with_reducible refine CS9.out.mono ?_); rintro e w5 ⟨rfl, hb5⟩; replace hYu := Lib.hid (hYu.out.trans (hb5.mono hYu.out.size)); clear hb5)
                                exact ⟨⟨i + 1, by omega, rfl, hYu⟩, by simp [intOf]; omega⟩
                          · have e : rm = i := by omega
                            subst e
                            have hd1 : decide ((rm : Int) < (rm : Int)) = false := decide_eq_false (by omega)
                            go_wp2_with (go_at_call 8; (with_reducible refine (awake12_any _).mono ?_); rintro e w9 ⟨rfl, hb9⟩; replace hk := Lib.hid (hk.out.trans (hb9.mono hk.out.size)); clear hb9)
                            go_ret
                            exact ⟨rfl, HE.out _ (hbx.out.trans (hk.out.mono hbx.out.size))⟩
              · go_ret
                exact ⟨rfl, HE.out _ hk.out⟩
            · have d6 : decide (1099511627776 < ya) = true := decide_eq_true (by omega)
              clear hc
              go_enter Tryz.func5, Tryz.ntmps5
              go_upto_region 1 with fail
              rw [← hwa]
              clear hwa
              go_wp2_with (first
                      | (go_at_call 6; (with_reducible refine (HG.out _ hk.out).mono ?_); rintro e w1 ⟨⟨g1, rfl, hg1⟩, hb1⟩; replace hk := Lib.hid (hk.out.trans (hb1.mono hk.out.size)); clear hb1; clear q0 q1 q2 q3 q4 q5 q6 q7 q8; obtain ⟨q0, q1, q2, q3, q4, q5, q6, q7, q8⟩ := HQ.out _ hk.out; replace hg1 := Lib.hid hg1; (cases g1))
                      | (go_at_call 8; (with_reducible refine (awake12_any _).mono ?_); rintro e w9 ⟨rfl, hb9⟩; replace hk := Lib.hid (hk.out.trans (hb9.mono hk.out.size)); clear hb9)
                      | (go_at_call 12; have HW3 := HW.out _ hk.out (hg1.out (by first | rfl | exact trivial)); (with_reducible refine HW3.mono ?_); clear HW3; rintro e w3 ⟨rfl, hb3⟩; replace hk := Lib.hid (hk.out.trans (hb3.mono hk.out.size)); clear hb3; clear q0 q1 q2 q3 q4 q5 q6 q7 q8; obtain ⟨q0, q1, q2, q3, q4, q5, q6, q7, q8⟩ := HQ.out _ hk.out))
              all_goals go_ret
              all_goals exact ⟨rfl, HE.out _ hk.out⟩
          · have d5 : decide (ya < 0) = true := decide_eq_true (by omega)
            clear hc
            go_enter Tryz.func5, Tryz.ntmps5
            go_upto_region 1 with fail
            rw [← hwa]
            clear hwa
            go_wp2_with (first
                    | (go_at_call 6; (with_reducible refine (HG.out _ hk.out).mono ?_); rintro e w1 ⟨⟨g1, rfl, hg1⟩, hb1⟩; replace hk := Lib.hid (hk.out.trans (hb1.mono hk.out.size)); clear hb1; clear q0 q1 q2 q3 q4 q5 q6 q7 q8; obtain ⟨q0, q1, q2, q3, q4, q5, q6, q7, q8⟩ := HQ.out _ hk.out; replace hg1 := Lib.hid hg1; (cases g1))
                    | (go_at_call 8; (with_reducible refine (awake12_any _).mono ?_); rintro e w9 ⟨rfl, hb9⟩; replace hk := Lib.hid (hk.out.trans (hb9.mono hk.out.size)); clear hb9)
                    | (go_at_call 12; have HW3 := HW.out _ hk.out (hg1.out (by first | rfl | exact trivial)); (with_reducible refine HW3.mono ?_); clear HW3; rintro e w3 ⟨rfl, hb3⟩; replace hk := Lib.hid (hk.out.trans (hb3.mono hk.out.size)); clear hb3; clear q0 q1 q2 q3 q4 q5 q6 q7 q8; obtain ⟨q0, q1, q2, q3, q4, q5, q6, q7, q8⟩ := HQ.out _ hk.out))
            all_goals go_ret
            all_goals exact ⟨rfl, HE.out _ hk.out⟩
        · have d4 : wy.toList.isEmpty = false := by
            rw [hwy.out] at hc ⊢
            exact why_ne hc
          go_enter Tryz.func5, Tryz.ntmps5
          go_upto_region 1 with fail
          rw [← hwa]
          clear hwa
          go_wp2_with (first
                  | (go_at_call 6; (with_reducible refine (HG.out _ hk.out).mono ?_); rintro e w1 ⟨⟨g1, rfl, hg1⟩, hb1⟩; replace hk := Lib.hid (hk.out.trans (hb1.mono hk.out.size)); clear hb1; clear q0 q1 q2 q3 q4 q5 q6 q7 q8; obtain ⟨q0, q1, q2, q3, q4, q5, q6, q7, q8⟩ := HQ.out _ hk.out; replace hg1 := Lib.hid hg1; (cases g1))
                  | (go_at_call 8; (with_reducible refine (awake12_any _).mono ?_); rintro e w9 ⟨rfl, hb9⟩; replace hk := Lib.hid (hk.out.trans (hb9.mono hk.out.size)); clear hb9)
                  | (go_at_call 12; have HW3 := HW.out _ hk.out (hg1.out (by first | rfl | exact trivial)); (with_reducible refine HW3.mono ?_); clear HW3; rintro e w3 ⟨rfl, hb3⟩; replace hk := Lib.hid (hk.out.trans (hb3.mono hk.out.size)); clear hb3; clear q0 q1 q2 q3 q4 q5 q6 q7 q8; obtain ⟨q0, q1, q2, q3, q4, q5, q6, q7, q8⟩ := HQ.out _ hk.out))
          all_goals go_ret
          all_goals exact ⟨rfl, HE.out _ hk.out⟩
      · have d3 : decide (0 < (hm : Int)) = true := decide_eq_true (by omega)
        have e3 : 0 < hm := by omega
        clear hc
        go_enter Tryz.func5, Tryz.ntmps5
        go_upto_region 1 with fail
        rw [← hwa]
        clear hwa
        go_wp2_with (first
                | (go_at_call 6; (with_reducible refine (HG.out _ hk.out).mono ?_); rintro e w1 ⟨⟨g1, rfl, hg1⟩, hb1⟩; replace hk := Lib.hid (hk.out.trans (hb1.mono hk.out.size)); clear hb1; clear q0 q1 q2 q3 q4 q5 q6 q7 q8; obtain ⟨q0, q1, q2, q3, q4, q5, q6, q7, q8⟩ := HQ.out _ hk.out; replace hg1 := Lib.hid hg1; (cases g1))
                | (go_at_call 8; (with_reducible refine (awake12_any _).mono ?_); rintro e w9 ⟨rfl, hb9⟩; replace hk := Lib.hid (hk.out.trans (hb9.mono hk.out.size)); clear hb9)
                | (go_at_call 12; have HW3 := HW.out _ hk.out (hg1.out (by first | rfl | exact trivial)); (with_reducible refine HW3.mono ?_); clear HW3; rintro e w3 ⟨rfl, hb3⟩; replace hk := Lib.hid (hk.out.trans (hb3.mono hk.out.size)); clear hb3; clear q0 q1 q2 q3 q4 q5 q6 q7 q8; obtain ⟨q0, q1, q2, q3, q4, q5, q6, q7, q8⟩ := HQ.out _ hk.out))
        all_goals go_ret
        all_goals exact ⟨rfl, HE.out _ hk.out⟩
    · have d2 : decide (0 < (fm : Int)) = true := decide_eq_true (by omega)
      have e2 : 0 < fm := by omega
      clear hc
      go_enter Tryz.func5, Tryz.ntmps5
      go_upto_region 1 with fail
      rw [← hwa]
      clear hwa
      go_wp2_with (first
              | (go_at_call 6; (with_reducible refine (HG.out _ hk.out).mono ?_); rintro e w1 ⟨⟨g1, rfl, hg1⟩, hb1⟩; replace hk := Lib.hid (hk.out.trans (hb1.mono hk.out.size)); clear hb1; clear q0 q1 q2 q3 q4 q5 q6 q7 q8; obtain ⟨q0, q1, q2, q3, q4, q5, q6, q7, q8⟩ := HQ.out _ hk.out; replace hg1 := Lib.hid hg1; (cases g1))
              | (go_at_call 8; (with_reducible refine (awake12_any _).mono ?_); rintro e w9 ⟨rfl, hb9⟩; replace hk := Lib.hid (hk.out.trans (hb9.mono hk.out.size)); clear hb9)
              | (go_at_call 12; have HW3 := HW.out _ hk.out (hg1.out (by first | rfl | exact trivial)); (with_reducible refine HW3.mono ?_); clear HW3; rintro e w3 ⟨rfl, hb3⟩; replace hk := Lib.hid (hk.out.trans (hb3.mono hk.out.size)); clear hb3; clear q0 q1 q2 q3 q4 q5 q6 q7 q8; obtain ⟨q0, q1, q2, q3, q4, q5, q6, q7, q8⟩ := HQ.out _ hk.out))
      all_goals go_ret
      all_goals exact ⟨rfl, HE.out _ hk.out⟩
  · have d1 : decide (0 < (on : Int)) = true := decide_eq_true (by omega)
    have e1 : 0 < on := by omega
    clear hc
    go_enter Tryz.func5, Tryz.ntmps5
    go_upto_region 1 with fail
    rw [← hwa]
    clear hwa
    go_wp2_with (first
            | (go_at_call 6; (with_reducible refine (HG.out _ hk.out).mono ?_); rintro e w1 ⟨⟨g1, rfl, hg1⟩, hb1⟩; replace hk := Lib.hid (hk.out.trans (hb1.mono hk.out.size)); clear hb1; clear q0 q1 q2 q3 q4 q5 q6 q7 q8; obtain ⟨q0, q1, q2, q3, q4, q5, q6, q7, q8⟩ := HQ.out _ hk.out; replace hg1 := Lib.hid hg1; (cases g1))
            | (go_at_call 8; (with_reducible refine (awake12_any _).mono ?_); rintro e w9 ⟨rfl, hb9⟩; replace hk := Lib.hid (hk.out.trans (hb9.mono hk.out.size)); clear hb9)
            | (go_at_call 12; have HW3 := HW.out _ hk.out (hg1.out (by first | rfl | exact trivial)); (with_reducible refine HW3.mono ?_); clear HW3; rintro e w3 ⟨rfl, hb3⟩; replace hk := Lib.hid (hk.out.trans (hb3.mono hk.out.size)); clear hb3; clear q0 q1 q2 q3 q4 q5 q6 q7 q8; obtain ⟨q0, q1, q2, q3, q4, q5, q6, q7, q8⟩ := HQ.out _ hk.out))
    all_goals go_ret
    all_goals exact ⟨rfl, HE.out _ hk.out⟩
end Go.Proofs.YtejmmjedognaaaaGreat
