/-
  THE LAW LookRoots: its walk.
-/
import Derived.Test.YtejmmjedognaaaaGreatL43
namespace Go.Proofs.YtejmmjedognaaaaGreat
open Go.RowKit Go.Shelf
open St

/-- A region that ends in one way. -/
def One (A : Act) (W : World) : Exit → Act → World → Prop
  | .normal, a, w => a = A ∧ w = W
  | _, _, _ => False
set_option maxRecDepth 100000 in
theorem region_one {P : Program} {c : Code} {Q : Exit → Act → World → Prop} {a : Act} {w : World} {A : Act} {W : World} (h1 : c.wp P (One A W) a w) (h2 : Q .normal A W) : c.wp P Q a w :=
  Code.wp_mono (fun e a w h => by
    cases e with
    | normal => obtain ⟨rfl, rfl⟩ := h; exact h2
    | _ => exact h.elim) h1
set_option maxRecDepth 100000 in
theorem set7b {B : Nat} {a w : World} (h : Below B a w) {D : Nat} (hD : B ≤ D) (v0 v1 v2 v3 v4 v5 v6 : Value) : Below B a (((((((w.setCell ⟨D, 0, none⟩ v0).setCell ⟨D, 1, none⟩ v1).setCell ⟨D, 2, none⟩ v2).setCell ⟨D, 3, none⟩ v3).setCell ⟨D, 4, none⟩ v4).setCell ⟨D, 5, none⟩ v5).setCell ⟨D, 6, none⟩ v6) :=
  ((((((h.setCell (p := ⟨D, 0, none⟩) hD v0).setCell (p := ⟨D, 1, none⟩) hD v1).setCell (p := ⟨D, 2, none⟩) hD v2).setCell (p := ⟨D, 3, none⟩) hD v3).setCell (p := ⟨D, 4, none⟩) hD v4).setCell (p := ⟨D, 5, none⟩) hD v5).setCell (p := ⟨D, 6, none⟩) hD v6
set_option maxRecDepth 100000 in
theorem set7c {w : World} {D : Nat} {v : Value} (h : w.cell? ⟨D, 0, none⟩ = some v) (v0 v1 v2 v3 v4 v5 v6 : Value) : (((((((w.setCell ⟨D, 0, none⟩ v0).setCell ⟨D, 1, none⟩ v1).setCell ⟨D, 2, none⟩ v2).setCell ⟨D, 3, none⟩ v3).setCell ⟨D, 4, none⟩ v4).setCell ⟨D, 5, none⟩ v5).setCell ⟨D, 6, none⟩ v6).cell? ⟨D, 0, none⟩ = some v0 := by
  rw [World.cell?_setCell_other _ _ _ _ (by simp), World.cell?_setCell_other _ _ _ _ (by simp), World.cell?_setCell_other _ _ _ _ (by simp), World.cell?_setCell_other _ _ _ _ (by simp), World.cell?_setCell_other _ _ _ _ (by simp), World.cell?_setCell_other _ _ _ _ (by simp)]
  exact World.cell?_setCell_same _ _ _ h
set_option maxRecDepth 100000 in
set_option maxRecDepth 100000 in
set_option maxHeartbeats 2000000 in
theorem lookRoots_walk {w : World} {r : DR} {d : Dmp} (h : DV w r d) {SA : Option Addr} {sm sc : Nat} {S : List Slt} (hS : SLs w SA sm sc S) (k : Int) :
    Calls Tryz.prog 4 #[r.val, .slice SA sm sc, .int .i64 k] w fun e w' => e = .returned (.bool true) ∧ Below w.heap.size w w' := by
  obtain ⟨⟨ya, yA, yn, yc⟩, ⟨oa, oA, on, oc⟩, ds, dm, F, fm, fc, R, rm, rc, H, hm, hc, rs⟩ := r
  unfold DR.val
  simp only
  obtain ⟨wa, hwa⟩ : ∃ wa, wa = w.alloc (.cells #[.int .i64 ya, .slice yA yn yc, .int .i64 oa, .slice oA on oc, .int .i64 ds, .int .i64 dm, .slice F fm fc, .slice R rm rc, .slice H hm hc] 28) := ⟨_, rfl⟩
  have hba : Below w.heap.size w wa := by rw [hwa]; exact (Below.refl _ w).alloc (Nat.le_refl _) _
  obtain ⟨r, hr⟩ : ∃ r : DR, r = ⟨⟨ya, yA, yn, yc⟩, ⟨oa, oA, on, oc⟩, ds, dm, F, fm, fc, R, rm, rc, H, hm, hc, rs⟩ := ⟨_, rfl⟩
  have bk : Bx wa w.heap.size r := ⟨by rw [hwa, hr]; exact heap_alloc_new w _⟩
  have hQ : ∀ w', Below wa.heap.size wa w' → w'.cell? ⟨w.heap.size, 0, none⟩ = some (.int .i64 ya) ∧ w'.cell? ⟨w.heap.size, 1, none⟩ = some (.slice yA yn yc) ∧ w'.cell? ⟨w.heap.size, 2, none⟩ = some (.int .i64 oa) ∧ w'.cell? ⟨w.heap.size, 3, none⟩ = some (.slice oA on oc) ∧ w'.cell? ⟨w.heap.size, 4, none⟩ = some (.int .i64 ds) ∧ w'.cell? ⟨w.heap.size, 5, none⟩ = some (.int .i64 dm) ∧ w'.cell? ⟨w.heap.size, 6, none⟩ = some (.slice F fm fc) ∧ w'.cell? ⟨w.heap.size, 7, none⟩ = some (.slice R rm rc) ∧ w'.cell? ⟨w.heap.size, 8, none⟩ = some (.slice H hm hc) := fun w' hb => by
    have hx := bk.below hb bk.lt
    subst hr
    exact ⟨hx.c0, hx.c1, hx.c2, hx.c3, hx.c4, hx.c5, hx.c6, hx.c7, hx.c8⟩
  rw [← hr] at h
  have HD : Hid (∀ w', Below wa.heap.size wa w' → DV w' r d ∧ SLs w' SA sm sc S) := Lib.hid (fun w' hb => ⟨(h.below hba).below hb, (hS.below hba).below hb⟩)
  have HE : Hid (∀ w', Below wa.heap.size wa w' → Below w.heap.size w w') := Lib.hid (fun w' hb => hba.trans (hb.mono hba.size))
  have HG : Hid (∀ w', Below wa.heap.size wa w' → Calls Tryz.prog 6 #[.agg #[.int .i64 ya, .slice yA yn yc, .int .i64 oa, .slice oA on oc, .int .i64 ds, .int .i64 dm, .slice F fm fc, .slice R rm rc, .slice H hm hc], .int .i64 60] w' fun e w2 => GrP (Sm r) e ∧ Below w'.heap.size w' w2) := Lib.hid (fun w' hb => by
    have q := greatDump_any (HD.out w' hb).1
    subst hr
    exact q)
  have HGS := Lib.hid (fun w' hb => greatSlots_any (HD.out w' hb).2)
  have HX : Hid (Sm r → sm ≤ 40 → ∀ w', Below wa.heap.size wa w' → ∀ (R' : Option Addr) (m' c' : Nat) (rs' : List Int), Zs .u64 w' R' m' c' rs' → m' ≤ 1000 →
      (Sepa (d.y :: d.o :: d.fs) → Calls Tryz.prog 19 #[.agg #[.int .i64 ya, .slice yA yn yc, .int .i64 oa, .slice oA on oc, .int .i64 ds, .int .i64 dm, .slice F fm fc, .slice R' m' c', .slice H hm hc]] w' fun e w2 => (∃ l, Rchd (d.y :: d.o :: d.fs) rs' l ∧ e = .returned (.int .i64 (szO l))) ∧ Below w'.heap.size w' w2) ∧
      Calls Tryz.prog 12 #[.agg #[.int .i64 ya, .slice yA yn yc, .int .i64 oa, .slice oA on oc, .int .i64 ds, .int .i64 dm, .slice F fm fc, .slice R' m' c', .slice H hm hc], .slice SA sm sc] w' (fun e w2 => e = .returned (.string (whyO (d.y :: d.o :: d.fs) S { d with roots := rs' })) ∧ Below w'.heap.size w' w2) ∧
      (rs' = [] → Calls Tryz.prog 18 #[.agg #[.int .i64 ya, .slice yA yn yc, .int .i64 oa, .slice oA on oc, .int .i64 ds, .int .i64 dm, .slice F fm fc, .slice R' m' c', .slice H hm hc]] w' fun e w2 => (∃ A c, e = .returned (.slice A 0 c)) ∧ Below w'.heap.size w' w2)) := Lib.hid (fun hs hsm w' hb R' m' c' rs' hz hm' => by
    have q := asked (HD.out w' hb).1 hs (HD.out w' hb).2 (by omega) hz hm'
    subst hr
    exact q)
  have HRd : Hid (Sm r → sm ≤ 40 → RtsOk (d.y :: d.o :: d.fs) S d.roots → ∀ w', Below wa.heap.size wa w' → ∀ x, Wd x → x ∈ d.roots → Calls Tryz.prog 10 #[.agg #[.int .i64 ya, .slice yA yn yc, .int .i64 oa, .slice oA on oc, .int .i64 ds, .int .i64 dm, .slice F fm fc, .slice R rm rc, .slice H hm hc], .slice SA sm sc, .int .u64 x] w' fun e w2 =>
      (∃ k n g A ln lc u s B m dd, e = .returned (.tuple #[.agg #[.int .i64 k, .int .i64 n, .bool g, .slice A ln lc, .int .u64 u, .string s, .slice B m dd], .bool true]) ∧ (k == 0) = false) ∧ Below w'.heap.size w' w2) := Lib.hid (fun hs hsm hrt w' hb x hx hm' => by
    have q := read_root (HD.out w' hb).1 hs (HD.out w' hb).2 (by omega) hrt x hx hm'
    subst hr
    exact q)
  have HZ : Hid (∀ w', Below wa.heap.size wa w' → Zs .u64 w' R rm rc d.roots) := Lib.hid (fun w' hb => by
    have q := (HD.out w' hb).1.roots
    subst hr
    exact q)
  have HRM : Hid (Sm r → rm ≤ 100) := Lib.hid (fun hs => by
    have q := hs.rm
    subst hr
    exact q)
  have HA : Hid (0 < rm → ∃ b o, R = some ⟨b, o, none⟩) := Lib.hid (fun h0 => by
    obtain ⟨b, o, e, _⟩ := (HZ.out wa (Below.refl _ _)).some h0
    exact ⟨b, o, e⟩)
  have hrc : rm ≤ 9223372036854775807 := Nat.le_trans (HZ.out wa (Below.refl _ _)).nc (HZ.out wa (Below.refl _ _)).cm
  have hrl := Lib.hid (HZ.out wa (Below.refl _ _)).len
  have HQ := Lib.hid hQ
  have HEL := Lib.hid bk.lt
  have hk : Hid (Below wa.heap.size wa wa) := Lib.hid (Below.refl _ _)
  obtain ⟨q0, q1, q2, q3, q4, q5, q6, q7, q8⟩ := hQ wa (Below.refl _ _)
  obtain ⟨wy, hwy⟩ : ∃ wy, wy = whyO (d.y :: d.o :: d.fs) S d := ⟨_, rfl⟩
  have HW : Hid (∀ w', Below wa.heap.size wa w' → Sm r → sm ≤ 40 → Calls Tryz.prog 12 #[.agg #[.int .i64 ya, .slice yA yn yc, .int .i64 oa, .slice oA on oc, .int .i64 ds, .int .i64 dm, .slice F fm fc, .slice R rm rc, .slice H hm hc], .slice SA sm sc] w' fun e w2 => e = .returned (.string wy) ∧ Below w'.heap.size w' w2) := Lib.hid (fun w' hb hs hq => by
    rw [hwy]
    exact (HX.out hs hq w' hb R rm rc d.roots (HZ.out w' hb) (by have := HRM.out hs; omega)).2.1)
  replace hwy := Lib.hid hwy
  replace hr := Lib.hid hr
  clear bk h hS hba hQ HD
  by_cases hy : wy = ⟨#[]⟩
  · subst hy
    obtain ⟨⟨hsep, _⟩, hrts, _⟩ := why_yes hwy.out.symm
    replace hsep := Lib.hid hsep
    replace hrts := Lib.hid hrts
    go_enter Tryz.func4, Tryz.ntmps4
    go_upto_region 1 with fail
    rw [← hwa]
    clear hwa
    go_wp2_with (first
      | (go_at_call 6; (with_reducible refine (HG.out _ hk.out).mono ?_); rintro e w1 ⟨⟨g1, rfl, hg1⟩, hb1⟩; replace hk := Lib.hid (hk.out.trans (hb1.mono hk.out.size)); clear hb1; clear q0 q1 q2 q3 q4 q5 q6 q7 q8; obtain ⟨q0, q1, q2, q3, q4, q5, q6, q7, q8⟩ := HQ.out _ hk.out; replace hg1 := Lib.hid hg1; (cases g1))
      | (go_at_call 8; (with_reducible refine (awake12_any _).mono ?_); rintro e w9 ⟨rfl, hb9⟩; replace hk := Lib.hid (hk.out.trans (hb9.mono hk.out.size)); clear hb9)
      | (go_at_call 7; (with_reducible refine (HGS.out _ hk.out).mono ?_); rintro e w2 ⟨⟨g2, rfl, hg2⟩, rfl⟩; replace hg2 := Lib.hid hg2; (cases g2))
      | (go_at_call 12; have HW3 := HW.out _ hk.out (hg1.out (by first | rfl | exact trivial)) (hg2.out (by first | rfl | exact trivial)).1; (with_reducible refine HW3.mono ?_); clear HW3; rintro e w3 ⟨rfl, hb3⟩; replace hk := Lib.hid (hk.out.trans (hb3.mono hk.out.size)); clear hb3; clear q0 q1 q2 q3 q4 q5 q6 q7 q8; obtain ⟨q0, q1, q2, q3, q4, q5, q6, q7, q8⟩ := HQ.out _ hk.out))
    · have hs1 := Lib.hid (hg1.out (by first | rfl | exact trivial))
      have hq1 := Lib.hid (hg2.out (by first | rfl | exact trivial)).1
      have hrm1 := HRM.out hs1.out
      clear hg1 hg2 HW
      go_loopw [7] (fun v7 wx => ∃ i : Nat, i ≤ rm ∧ v7 = .int .i64 (i : Int) ∧ Hid (Below wa.heap.size wa wx)) (fun v7 _ => rm - (intOf v7).toNat)
      case atStart => exact ⟨0, Nat.zero_le _, rfl, hk⟩
      case round =>
        clear hk q0 q1 q2 q3 q4 q5 q6 q7 q8
        obtain ⟨i, hi, rfl, hk⟩ := hrel
        obtain ⟨q0, q1, q2, q3, q4, q5, q6, q7, q8⟩ := HQ.out _ hk.out
        by_cases him : i < rm
        · have hd1 : decide ((i : Int) < (rm : Int)) = true := decide_eq_true (by omega)
          obtain ⟨b, o, hA⟩ := HA.out (by omega)
          subst hA
          have hz := HZ.out _ hk.out
          have y0 := hz.at_ him
          have hx := wf_u (hz.wfAt him)
          have hxin : d.roots.getD i 0 ∈ d.roots := by
            rw [List.getD_eq_getElem?_getD, List.getElem?_eq_getElem (by rw [hrl.out]; exact him)]
            exact List.getElem_mem (by rw [hrl.out]; exact him)
          have hRx : Hid (∀ w', Below wa.heap.size wa w' → w'.cell? ⟨w.heap.size, 0, none⟩ = some (.int .i64 ya) ∧ w'.cell? ⟨w.heap.size, 1, none⟩ = some (.slice yA yn yc) ∧ w'.cell? ⟨w.heap.size, 2, none⟩ = some (.int .i64 oa) ∧ w'.cell? ⟨w.heap.size, 3, none⟩ = some (.slice oA on oc) ∧ w'.cell? ⟨w.heap.size, 4, none⟩ = some (.int .i64 ds) ∧ w'.cell? ⟨w.heap.size, 5, none⟩ = some (.int .i64 dm) ∧ w'.cell? ⟨w.heap.size, 6, none⟩ = some (.slice F fm fc) ∧ w'.cell? ⟨w.heap.size, 7, none⟩ = some (.slice (some ⟨b, o, none⟩) rm rc) ∧ w'.cell? ⟨w.heap.size, 8, none⟩ = some (.slice H hm hc) ∧ w'.cell? ⟨b, o + i, none⟩ = some (.int .u64 (d.roots.getD i 0)) ∧ (Calls Tryz.prog 10 #[.agg #[.int .i64 ya, .slice yA yn yc, .int .i64 oa, .slice oA on oc, .int .i64 ds, .int .i64 dm, .slice F fm fc, .slice (some ⟨b, o, none⟩) rm rc, .slice H hm hc], .slice SA sm sc, .int .u64 (d.roots.getD i 0)] w' fun e w2 => (∃ k n g A ln lc u s B m dd, e = .returned (.tuple #[.agg #[.int .i64 k, .int .i64 n, .bool g, .slice A ln lc, .int .u64 u, .string s, .slice B m dd], .bool true]) ∧ (k == 0) = false) ∧ Below w'.heap.size w' w2)) := Lib.hid (fun w' hb => by
            obtain ⟨a0, a1, a2, a3, a4, a5, a6, a7, a8⟩ := HQ.out w' hb
            exact ⟨a0, a1, a2, a3, a4, a5, a6, a7, a8, (HZ.out _ hb).at_ him, HRd.out hs1.out hq1.out hrts.out _ hb _ hx hxin⟩)
          have HP : Hid (∀ w', Below wa.heap.size wa w' → w'.cell? ⟨w.heap.size, 0, none⟩ = some (.int .i64 ya) ∧ w'.cell? ⟨w.heap.size, 1, none⟩ = some (.slice yA yn yc) ∧ w'.cell? ⟨w.heap.size, 2, none⟩ = some (.int .i64 oa) ∧ w'.cell? ⟨w.heap.size, 3, none⟩ = some (.slice oA on oc) ∧ w'.cell? ⟨w.heap.size, 4, none⟩ = some (.int .i64 ds) ∧ w'.cell? ⟨w.heap.size, 5, none⟩ = some (.int .i64 dm) ∧ w'.cell? ⟨w.heap.size, 6, none⟩ = some (.slice F fm fc) ∧ w'.cell? ⟨w.heap.size, 7, none⟩ = some (.slice (some ⟨b, o, none⟩) rm rc) ∧ w'.cell? ⟨w.heap.size, 8, none⟩ = some (.slice H hm hc) ∧ w'.cell? ⟨b, o + i, none⟩ = some (.int .u64 (d.roots.getD i 0))) := Lib.hid (fun w' hb => by
            obtain ⟨a0, a1, a2, a3, a4, a5, a6, a7, a8⟩ := HQ.out w' hb
            exact ⟨a0, a1, a2, a3, a4, a5, a6, a7, a8, (HZ.out _ hb).at_ him⟩)
          clear hz hx hxin
          generalize d.roots.getD i 0 = x at *
          have hkd : Hid (Below wa.heap.size wa wr.drew) := Lib.hid hk.out.drew
          have hka : Hid (Below wa.heap.size wa (wr.alloc (.cells #[.int .i64 0, .int .i64 0, .bool false, .slice none 0 0, .int .u64 0, .string ⟨#[]⟩, .slice none 0 0] 40)).drew) := Lib.hid (hk.out.alloc hk.out.size _).drew
          clear q0 q1 q2 q3 q4 q5 q6 q7 q8 y0
          obtain ⟨q0, q1, q2, q3, q4, q5, q6, q7, q8, y0, _⟩ := hRx.out _ hk.out
          go_wp2_with fail
          go_region_held3 (fun w' => w'.cell? ⟨w.heap.size, 0, none⟩ = some (.int .i64 ya) ∧ w'.cell? ⟨w.heap.size, 1, none⟩ = some (.slice yA yn yc) ∧ w'.cell? ⟨w.heap.size, 2, none⟩ = some (.int .i64 oa) ∧ w'.cell? ⟨w.heap.size, 3, none⟩ = some (.slice oA on oc) ∧ w'.cell? ⟨w.heap.size, 4, none⟩ = some (.int .i64 ds) ∧ w'.cell? ⟨w.heap.size, 5, none⟩ = some (.int .i64 dm) ∧ w'.cell? ⟨w.heap.size, 6, none⟩ = some (.slice F fm fc) ∧ w'.cell? ⟨w.heap.size, 7, none⟩ = some (.slice (some ⟨b, o, none⟩) rm rc) ∧ w'.cell? ⟨w.heap.size, 8, none⟩ = some (.slice H hm hc) ∧ w'.cell? ⟨b, o + i, none⟩ = some (.int .u64 x))
            (first | with_reducible exact HP.out _ hkd.out | with_reducible exact HP.out _ h2.out | with_reducible exact HP.out _ hka.out | with_reducible exact HP.out _ hk.out | with_reducible exact HP.out _ (h2.out.alloc h2.out.size _) | with_reducible exact HP.out _ (set7b h2.out hk.out.size _ _ _ _ _ _ _))
            (first
              | (go_at_call 10; have Q := (hRx.out _ hkd.out).2.2.2.2.2.2.2.2.2.2; (with_reducible refine Q.mono ?_); clear Q; rintro e w2 ⟨⟨tk, tn, tg, tA, tln, tlc, tu, ts, tB, tm, tdd, rfl, hk0⟩, hb2⟩; have h2 := Lib.hid (hkd.out.trans (hb2.mono hkd.out.size)); clear hb2)
              | (go_at_call 10; have Q := (hRx.out _ hka.out).2.2.2.2.2.2.2.2.2.2; (with_reducible refine Q.mono ?_); clear Q; rintro e w2 ⟨⟨tk, tn, tg, tA, tln, tlc, tu, ts, tB, tm, tdd, rfl, hk0⟩, hb2⟩; have ht : w2.heap[wr.heap.size]? = some (.cells #[.int .i64 0, .int .i64 0, .bool false, .slice none 0 0, .int .u64 0, .string ⟨#[]⟩, .slice none 0 0] 40 (0, 0)) := (hb2.block wr.heap.size (by simp)).trans (heap_alloc_new wr _); have t0 : w2.cell? ⟨wr.heap.size, 0, none⟩ = some (.int .i64 0) := (cell_of_row w2 wr.heap.size 0 _ _ (0, 0) ht).trans rfl; have f0 : w2.frozen? ⟨wr.heap.size, 0, none⟩ = false := frozen_of_row w2 wr.heap.size 0 _ _ ht; have t1 : w2.cell? ⟨wr.heap.size, 1, none⟩ = some (.int .i64 0) := (cell_of_row w2 wr.heap.size 1 _ _ (0, 0) ht).trans rfl; have f1 : w2.frozen? ⟨wr.heap.size, 1, none⟩ = false := frozen_of_row w2 wr.heap.size 1 _ _ ht; have t2 : w2.cell? ⟨wr.heap.size, 2, none⟩ = some (.bool false) := (cell_of_row w2 wr.heap.size 2 _ _ (0, 0) ht).trans rfl; have f2 : w2.frozen? ⟨wr.heap.size, 2, none⟩ = false := frozen_of_row w2 wr.heap.size 2 _ _ ht; have t3 : w2.cell? ⟨wr.heap.size, 3, none⟩ = some (.slice none 0 0) := (cell_of_row w2 wr.heap.size 3 _ _ (0, 0) ht).trans rfl; have f3 : w2.frozen? ⟨wr.heap.size, 3, none⟩ = false := frozen_of_row w2 wr.heap.size 3 _ _ ht; have t4 : w2.cell? ⟨wr.heap.size, 4, none⟩ = some (.int .u64 0) := (cell_of_row w2 wr.heap.size 4 _ _ (0, 0) ht).trans rfl; have f4 : w2.frozen? ⟨wr.heap.size, 4, none⟩ = false := frozen_of_row w2 wr.heap.size 4 _ _ ht; have t5 : w2.cell? ⟨wr.heap.size, 5, none⟩ = some (.string ⟨#[]⟩) := (cell_of_row w2 wr.heap.size 5 _ _ (0, 0) ht).trans rfl; have f5 : w2.frozen? ⟨wr.heap.size, 5, none⟩ = false := frozen_of_row w2 wr.heap.size 5 _ _ ht; have t6 : w2.cell? ⟨wr.heap.size, 6, none⟩ = some (.slice none 0 0) := (cell_of_row w2 wr.heap.size 6 _ _ (0, 0) ht).trans rfl; have f6 : w2.frozen? ⟨wr.heap.size, 6, none⟩ = false := frozen_of_row w2 wr.heap.size 6 _ _ ht; clear ht; have h2 := Lib.hid (hka.out.trans (hb2.mono hka.out.size)); clear hb2))
          · go_wp2
            exact ⟨⟨i + 1, by omega, rfl, Lib.hid (h2.out.alloc h2.out.size _)⟩, by simp [intOf]; omega⟩
          · have hWc := set7c t0 (.int .i64 tk) (.int .i64 tn) (.bool tg) (.slice tA tln tlc) (.int .u64 tu) (.string ts) (.slice tB tm tdd)
            have hWb := Lib.hid (set7b h2.out hk.out.size (.int .i64 tk) (.int .i64 tn) (.bool tg) (.slice tA tln tlc) (.int .u64 tu) (.string ts) (.slice tB tm tdd))
            clear t0 t1 t2 t3 t4 t5 t6 f0 f1 f2 f3 f4 f5 f6 h2
            generalize (((((((w2.setCell ⟨wr.heap.size, 0, none⟩ (.int .i64 tk)).setCell ⟨wr.heap.size, 1, none⟩ (.int .i64 tn)).setCell ⟨wr.heap.size, 2, none⟩ (.bool tg)).setCell ⟨wr.heap.size, 3, none⟩ (.slice tA tln tlc)).setCell ⟨wr.heap.size, 4, none⟩ (.int .u64 tu)).setCell ⟨wr.heap.size, 5, none⟩ (.string ts)).setCell ⟨wr.heap.size, 6, none⟩ (.slice tB tm tdd)) = W at *
            generalize wr.heap.size = T at *
            go_wp2
            exact ⟨⟨i + 1, by omega, rfl, hWb⟩, by simp [intOf]; omega⟩
        · have e : i = rm := by omega
          subst e
          have hd1 : decide ((i : Int) < (i : Int)) = false := decide_eq_false (by omega)
          have a1 := hk.out.alloc hk.out.size (.cells #[.int .i64 ya, .slice yA yn yc, .int .i64 oa, .slice oA on oc, .int .i64 ds, .int .i64 dm, .slice F fm fc, .slice none 0 0, .slice H hm hc] 28)
          obtain ⟨p0, p1, p2, p3, p4, p5, p6, p7, p8⟩ := HQ.out _ a1
          go_upto_region 12 with fail
          clear p0 p1 p2 p3 p4 p5 p6 p7 p8 q0 q1 q2 q3 q4 q5 q6 q7 q8
          have nN : ((wr.alloc (.cells #[.int .i64 ya, .slice yA yn yc, .int .i64 oa, .slice oA on oc, .int .i64 ds, .int .i64 dm, .slice F fm fc, .slice none 0 0, .slice H hm hc] 28)).alloc (.cells #[.int .i64 ya, .slice yA yn yc, .int .i64 oa, .slice oA on oc, .int .i64 ds, .int .i64 dm, .slice F fm fc, .slice R i rc, .slice H hm hc] 28)).heap[wr.heap.size]? = some (.cells #[.int .i64 ya, .slice yA yn yc, .int .i64 oa, .slice oA on oc, .int .i64 ds, .int .i64 dm, .slice F fm fc, .slice none 0 0, .slice H hm hc] 28 (0, 0)) := by
            rw [Below.heap_alloc _ _ _ (by simp)]
            exact heap_alloc_new wr _
          have nT : ((wr.alloc (.cells #[.int .i64 ya, .slice yA yn yc, .int .i64 oa, .slice oA on oc, .int .i64 ds, .int .i64 dm, .slice F fm fc, .slice none 0 0, .slice H hm hc] 28)).alloc (.cells #[.int .i64 ya, .slice yA yn yc, .int .i64 oa, .slice oA on oc, .int .i64 ds, .int .i64 dm, .slice F fm fc, .slice R i rc, .slice H hm hc] 28)).heap[wr.heap.size + 1]? = some (.cells #[.int .i64 ya, .slice yA yn yc, .int .i64 oa, .slice oA on oc, .int .i64 ds, .int .i64 dm, .slice F fm fc, .slice R i rc, .slice H hm hc] 28 (0, 0)) := by
            have := heap_alloc_new (wr.alloc (.cells #[.int .i64 ya, .slice yA yn yc, .int .i64 oa, .slice oA on oc, .int .i64 ds, .int .i64 dm, .slice F fm fc, .slice none 0 0, .slice H hm hc] 28)) (.cells #[.int .i64 ya, .slice yA yn yc, .int .i64 oa, .slice oA on oc, .int .i64 ds, .int .i64 dm, .slice F fm fc, .slice R i rc, .slice H hm hc] 28)
            simpa using this
          have a2 := a1.alloc a1.size (.cells #[.int .i64 ya, .slice yA yn yc, .int .i64 oa, .slice oA on oc, .int .i64 ds, .int .i64 dm, .slice F fm fc, .slice R i rc, .slice H hm hc] 28)
          have hN0 := hk.out.size
          clear a1
          generalize (wr.alloc (.cells #[.int .i64 ya, .slice yA yn yc, .int .i64 oa, .slice oA on oc, .int .i64 ds, .int .i64 dm, .slice F fm fc, .slice none 0 0, .slice H hm hc] 28)).alloc (.cells #[.int .i64 ya, .slice yA yn yc, .int .i64 oa, .slice oA on oc, .int .i64 ds, .int .i64 dm, .slice F fm fc, .slice R i rc, .slice H hm hc] 28) = V2 at *
          generalize wr.heap.size = N0 at *
          obtain ⟨A4, c4, w4, A6, c6, w6, t1, t2, b4, b6, z6⟩ := twice_prep ((HZ.out V2 a2).drewN 1) (by omega)
          have a4 := a2.trans (Below.mono ((bel_drewN V2 1).trans b4) a2.size)
          have a6 := a2.trans (Below.mono ((bel_drewN V2 1).trans b6) a2.size)
          have lN := (Array.getElem?_eq_some_iff.1 nN).1
          have lT := (Array.getElem?_eq_some_iff.1 nT).1
          have nN6 := (b6.block N0 lN).trans nN
          have nT6 := (b6.block (N0 + 1) lT).trans nT
          have e1 := (HQ.out V2 a2).2.2.2.2.2.2.2.1
          have e4 := (HQ.out w4 a4).2.2.2.2.2.2.2.1
          have e6 : w6.cell? ⟨N0 + 1, 7, none⟩ = some (.slice R i rc) := (cell_of_row w6 (N0 + 1) 7 _ _ (0, 0) nT6).trans rfl
          have g6 : w6.frozen? ⟨N0 + 1, 7, none⟩ = false := frozen_of_row w6 (N0 + 1) 7 _ _ nT6
          have T1 := Lib.hid t1
          have T2 := Lib.hid t2
          have A6' := Lib.hid a6
          have Z6 := Lib.hid z6
          have NN6 := Lib.hid nN6
          have NT6 := Lib.hid nT6
          clear t1 t2 b4 b6 z6 a4 a6 nN nT nN6 nT6 lN lT hk a2
          go_wp2_with fail
          apply region_one
          case h1 =>
            go_region_law (first | (refine step_apnd rfl (.const (.slice none 0 0)) (.tmp 55) 22 rfl (.slice none 0 0) _ _ rfl rfl T1.out ?_) | (refine step_apnd rfl (.tmp 56) (.tmp 58) 22 rfl (.slice A4 i c4) _ _ rfl rfl T2.out ?_))
            all_goals exact ⟨rfl, rfl⟩
          case h2 =>
            have a7 := A6'.out.setCell (p := ⟨N0 + 1, 7, none⟩) (Nat.le_succ_of_le hN0) (.slice A6 (i + i) c6)
            have k7 := (Below.refl (N0 + 1) w6).setCell (p := ⟨N0 + 1, 7, none⟩) (Nat.le_refl _) (.slice A6 (i + i) c6)
            have nN7 := (k7.block N0 (by omega)).trans NN6.out
            have nT7 : (w6.setCell ⟨N0 + 1, 7, none⟩ (.slice A6 (i + i) c6)).heap[N0 + 1]? = some (.cells #[.int .i64 ya, .slice yA yn yc, .int .i64 oa, .slice oA on oc, .int .i64 ds, .int .i64 dm, .slice F fm fc, .slice A6 (i + i) c6, .slice H hm hc] 28 (0, 0)) := by
              rw [heap_setCell_same w6 (N0 + 1) 7 _ _ _ NT6.out]; simp
            have z7 := Z6.out.ku (KU.set e6 (fun x e => by cases e) (.slice A6 (i + i) c6)) k7.size
            clear k7 e1 e4 e6 g6 T1 T2 A6' Z6 NN6 NT6
            generalize w6.setCell ⟨N0 + 1, 7, none⟩ (.slice A6 (i + i) c6) = W7 at *
            obtain ⟨q0, q1, q2, q3, q4, q5, q6, q7, q8⟩ := HQ.out _ a7
            go_upto_region 14 with fail
            clear q0 q1 q2 q3 q4 q5 q6 q7 q8
            have a8 := a7.alloc a7.size (.cells #[.int .i64 ya, .slice yA yn yc, .int .i64 oa, .slice oA on oc, .int .i64 ds, .int .i64 dm, .slice F fm fc, .slice R i rc, .slice H hm hc] 28)
            have k8 := (Below.refl W7.heap.size W7).alloc (Nat.le_refl _) (.cells #[.int .i64 ya, .slice yA yn yc, .int .i64 oa, .slice oA on oc, .int .i64 ds, .int .i64 dm, .slice F fm fc, .slice R i rc, .slice H hm hc] 28)
            have nN8 := (k8.block N0 (Array.getElem?_eq_some_iff.1 nN7).1).trans nN7
            have nT8 := (k8.block (N0 + 1) (Array.getElem?_eq_some_iff.1 nT7).1).trans nT7
            have nS8 : (W7.alloc (.cells #[.int .i64 ya, .slice yA yn yc, .int .i64 oa, .slice oA on oc, .int .i64 ds, .int .i64 dm, .slice F fm fc, .slice R i rc, .slice H hm hc] 28)).heap[W7.heap.size]? = some (.cells #[.int .i64 ya, .slice yA yn yc, .int .i64 oa, .slice oA on oc, .int .i64 ds, .int .i64 dm, .slice F fm fc, .slice R i rc, .slice H hm hc] 28 (0, 0)) := heap_alloc_new W7 _
            have z8 := z7.below k8
            have hN2 := (Array.getElem?_eq_some_iff.1 nT7).1
            clear k8 nN7 nT7 z7 a7
            generalize W7.alloc (.cells #[.int .i64 ya, .slice yA yn yc, .int .i64 oa, .slice oA on oc, .int .i64 ds, .int .i64 dm, .slice F fm fc, .slice R i rc, .slice H hm hc] 28) = W8 at *
            generalize W7.heap.size = N2 at *
            obtain ⟨j, hj, hlow⟩ := low_int k ((i : Int) + 1) (by omega) (by omega)
            rw [← (show IntKind.i64.wrap ((i : Int) + 1) = (i : Int) + 1 by rw [IntKind.wrap_i64]; omega)] at hlow
            have HL := Lib.hid hlow
            have d7 := (HQ.out W8 a8).2.2.2.2.2.2.2.1
            have s7 : W8.cell? ⟨N2, 7, none⟩ = some (.slice R i rc) := (cell_of_row W8 N2 7 _ _ (0, 0) nS8).trans rfl
            have g7 : W8.frozen? ⟨N2, 7, none⟩ = false := frozen_of_row W8 N2 7 _ _ nS8
            have NN8 := Lib.hid nN8
            have NT8 := Lib.hid nT8
            have NS8 := Lib.hid nS8
            have Z8 := Lib.hid z8
            have AA8 := Lib.hid a8
            clear nN8 nT8 nS8 z8 a8 hlow
            have hrc9 : i ≤ rc := (HZ.out W8 AA8.out).nc
            have hjn : (j : Int) ≤ (i : Int) := by omega
            have hjr : j ≤ rc := by omega
            have hjr2 : (j : Int) ≤ (rc : Int) := by omega
            have hrcm : rc ≤ 9223372036854775807 := (HZ.out W8 AA8.out).cm
            have hne : (⟨N2, 7, none⟩ : Addr) ≠ ⟨w.heap.size, 7, none⟩ := fun e => by
              have h1 := HEL.out
              injection e with e1 _ _
              omega
            rcases R with _ | ⟨b, o, sp⟩
            · have hi0 : i = 0 := by
                rcases Nat.eq_zero_or_pos i with h0 | h0
                · exact h0
                · obtain ⟨b, o, e⟩ := HA.out h0
                  cases e
              subst hi0
              have hj0 : j = 0 := by omega
              subst hj0
              have h9 := HL.out
              rw [show IntKind.i64.wrap (((0 : Nat) : Int) + 1) = IntKind.i64.wrap 1 from rfl] at h9
              clear HL
              have HL := Lib.hid h9
              clear h9
              go_wp2_with fail
              apply region_one
              case h1 =>
                go_region_held3 (fun w' => w'.cell? ⟨w.heap.size, 7, none⟩ = some (.slice none 0 rc))
                  (first | exact d7 | exact (World.cell?_setCell_other _ _ _ _ hne).trans d7)
                  (first | (go_at_call 22; (with_reducible refine (HL.out _).mono ?_); rintro e w9 ⟨rfl, rfl⟩))
                all_goals exact ⟨rfl, rfl⟩
              case h2 =>
                have a9 := (AA8.out.setCell (p := ⟨N2, 7, none⟩) (show wa.heap.size ≤ N2 by omega) (.slice none 0 rc)).drew
                have k9 := ((Below.refl N2 W8).setCell (p := ⟨N2, 7, none⟩) (Nat.le_refl _) (.slice none 0 rc)).drew
                have nN9 := (k9.block N0 (by omega)).trans NN8.out
                have nT9 := (k9.block (N0 + 1) (by omega)).trans NT8.out
                have nS9 : (W8.setCell ⟨N2, 7, none⟩ (.slice none 0 rc)).drew.heap[N2]? = some (.cells #[.int .i64 ya, .slice yA yn yc, .int .i64 oa, .slice oA on oc, .int .i64 ds, .int .i64 dm, .slice F fm fc, .slice none 0 rc, .slice H hm hc] 28 (0, 0)) := by
                  show (W8.setCell ⟨N2, 7, none⟩ (.slice none 0 rc)).heap[N2]? = _
                  rw [heap_setCell_same W8 N2 7 _ _ _ NS8.out]; simp
                have z9 : Zs .u64 (W8.setCell ⟨N2, 7, none⟩ (.slice none 0 rc)).drew A6 0 c6 (d.roots ++ d.roots) := (Z8.out.ku (KU.set s7 (fun x e => by cases e) (.slice none 0 rc)) k9.size).drewN 1
                have y9 : Zs .u64 (W8.setCell ⟨N2, 7, none⟩ (.slice none 0 rc)).drew none 0 rc (d.roots.take 0) := zs_pre (((HZ.out W8 AA8.out).ku (KU.set s7 (fun x e => by cases e) _) k9.size).drewN 1) (by omega)
                clear k9 d7 s7 g7 HL AA8 NN8 NT8 NS8 Z8
                generalize (W8.setCell ⟨N2, 7, none⟩ (.slice none 0 rc)).drew = W9 at *
                have HP9 : Hid (∀ w', Below W9.heap.size W9 w' → (w'.cell? ⟨w.heap.size, 0, none⟩ = some (.int .i64 ya) ∧ w'.cell? ⟨w.heap.size, 1, none⟩ = some (.slice yA yn yc) ∧ w'.cell? ⟨w.heap.size, 2, none⟩ = some (.int .i64 oa) ∧ w'.cell? ⟨w.heap.size, 3, none⟩ = some (.slice oA on oc) ∧ w'.cell? ⟨w.heap.size, 4, none⟩ = some (.int .i64 ds) ∧ w'.cell? ⟨w.heap.size, 5, none⟩ = some (.int .i64 dm) ∧ w'.cell? ⟨w.heap.size, 6, none⟩ = some (.slice F fm fc) ∧ w'.cell? ⟨w.heap.size, 7, none⟩ = some (.slice none 0 rc) ∧ w'.cell? ⟨w.heap.size, 8, none⟩ = some (.slice H hm hc)) ∧ (w'.cell? ⟨N0, 0, none⟩ = some (.int .i64 ya) ∧ w'.cell? ⟨N0, 1, none⟩ = some (.slice yA yn yc) ∧ w'.cell? ⟨N0, 2, none⟩ = some (.int .i64 oa) ∧ w'.cell? ⟨N0, 3, none⟩ = some (.slice oA on oc) ∧ w'.cell? ⟨N0, 4, none⟩ = some (.int .i64 ds) ∧ w'.cell? ⟨N0, 5, none⟩ = some (.int .i64 dm) ∧ w'.cell? ⟨N0, 6, none⟩ = some (.slice F fm fc) ∧ w'.cell? ⟨N0, 7, none⟩ = some (.slice none 0 0) ∧ w'.cell? ⟨N0, 8, none⟩ = some (.slice H hm hc)) ∧ (w'.cell? ⟨N0 + 1, 0, none⟩ = some (.int .i64 ya) ∧ w'.cell? ⟨N0 + 1, 1, none⟩ = some (.slice yA yn yc) ∧ w'.cell? ⟨N0 + 1, 2, none⟩ = some (.int .i64 oa) ∧ w'.cell? ⟨N0 + 1, 3, none⟩ = some (.slice oA on oc) ∧ w'.cell? ⟨N0 + 1, 4, none⟩ = some (.int .i64 ds) ∧ w'.cell? ⟨N0 + 1, 5, none⟩ = some (.int .i64 dm) ∧ w'.cell? ⟨N0 + 1, 6, none⟩ = some (.slice F fm fc) ∧ w'.cell? ⟨N0 + 1, 7, none⟩ = some (.slice A6 0 c6) ∧ w'.cell? ⟨N0 + 1, 8, none⟩ = some (.slice H hm hc)) ∧ (w'.cell? ⟨N2, 0, none⟩ = some (.int .i64 ya) ∧ w'.cell? ⟨N2, 1, none⟩ = some (.slice yA yn yc) ∧ w'.cell? ⟨N2, 2, none⟩ = some (.int .i64 oa) ∧ w'.cell? ⟨N2, 3, none⟩ = some (.slice oA on oc) ∧ w'.cell? ⟨N2, 4, none⟩ = some (.int .i64 ds) ∧ w'.cell? ⟨N2, 5, none⟩ = some (.int .i64 dm) ∧ w'.cell? ⟨N2, 6, none⟩ = some (.slice F fm fc) ∧ w'.cell? ⟨N2, 7, none⟩ = some (.slice none 0 rc) ∧ w'.cell? ⟨N2, 8, none⟩ = some (.slice H hm hc))) := Lib.hid (fun w' hb => by
                  have m0 := (hb.block N0 (Array.getElem?_eq_some_iff.1 nN9).1).trans nN9
                  have m1 := (hb.block (N0 + 1) (Array.getElem?_eq_some_iff.1 nT9).1).trans nT9
                  have m2 := (hb.block N2 (Array.getElem?_eq_some_iff.1 nS9).1).trans nS9
                  exact ⟨HQ.out w' (a9.trans (hb.mono a9.size)), ⟨(cell_of_row w' N0 0 _ _ (0, 0) m0).trans rfl, (cell_of_row w' N0 1 _ _ (0, 0) m0).trans rfl, (cell_of_row w' N0 2 _ _ (0, 0) m0).trans rfl, (cell_of_row w' N0 3 _ _ (0, 0) m0).trans rfl, (cell_of_row w' N0 4 _ _ (0, 0) m0).trans rfl, (cell_of_row w' N0 5 _ _ (0, 0) m0).trans rfl, (cell_of_row w' N0 6 _ _ (0, 0) m0).trans rfl, (cell_of_row w' N0 7 _ _ (0, 0) m0).trans rfl, (cell_of_row w' N0 8 _ _ (0, 0) m0).trans rfl⟩, ⟨(cell_of_row w' (N0 + 1) 0 _ _ (0, 0) m1).trans rfl, (cell_of_row w' (N0 + 1) 1 _ _ (0, 0) m1).trans rfl, (cell_of_row w' (N0 + 1) 2 _ _ (0, 0) m1).trans rfl, (cell_of_row w' (N0 + 1) 3 _ _ (0, 0) m1).trans rfl, (cell_of_row w' (N0 + 1) 4 _ _ (0, 0) m1).trans rfl, (cell_of_row w' (N0 + 1) 5 _ _ (0, 0) m1).trans rfl, (cell_of_row w' (N0 + 1) 6 _ _ (0, 0) m1).trans rfl, (cell_of_row w' (N0 + 1) 7 _ _ (0, 0) m1).trans rfl, (cell_of_row w' (N0 + 1) 8 _ _ (0, 0) m1).trans rfl⟩, ⟨(cell_of_row w' N2 0 _ _ (0, 0) m2).trans rfl, (cell_of_row w' N2 1 _ _ (0, 0) m2).trans rfl, (cell_of_row w' N2 2 _ _ (0, 0) m2).trans rfl, (cell_of_row w' N2 3 _ _ (0, 0) m2).trans rfl, (cell_of_row w' N2 4 _ _ (0, 0) m2).trans rfl, (cell_of_row w' N2 5 _ _ (0, 0) m2).trans rfl, (cell_of_row w' N2 6 _ _ (0, 0) m2).trans rfl, (cell_of_row w' N2 7 _ _ (0, 0) m2).trans rfl, (cell_of_row w' N2 8 _ _ (0, 0) m2).trans rfl⟩⟩)
                have HX9 : ∀ w', Below W9.heap.size W9 w' → ∀ (R' : Option Addr) (m' c' : Nat) (rs' : List Int), Zs .u64 w' R' m' c' rs' → m' ≤ 1000 → _ := fun w' hb => HX.out hs1.out hq1.out w' (a9.trans (hb.mono a9.size))
                have c0 := Lib.hid (fun w' hb => (HX9 w' hb none 0 0 [] (Zs.nil _ _) (by omega)).1 hsep.out)
                have c1 := Lib.hid (fun w' hb => (HX9 w' hb none 0 0 [] (Zs.nil _ _) (by omega)).2.2 rfl)
                have c2 := Lib.hid (fun w' hb => (HX9 w' hb none 0 0 [] (Zs.nil _ _) (by omega)).2.1)
                have c3 := Lib.hid (fun w' (hb : Below W9.heap.size W9 w') => (HX9 w' hb A6 0 c6 (d.roots ++ d.roots) (z9.below hb) (by omega)).1 hsep.out)
                have c4 := Lib.hid (fun w' (hb : Below W9.heap.size W9 w') => (HX9 w' hb A6 0 c6 (d.roots ++ d.roots) (z9.below hb) (by omega)).2.1)
                have c5 := Lib.hid (fun w' (hb : Below W9.heap.size W9 w') => (HX9 w' hb none 0 rc (d.roots.take 0) (y9.below hb) (by omega)).1 hsep.out)
                have c6' := Lib.hid (fun w' (hb : Below W9.heap.size W9 w') => (HX9 w' hb none 0 rc d.roots (HZ.out w' (a9.trans (hb.mono a9.size))) (by omega)).1 hsep.out)
                rw [why_sub hwy.out.symm [] (fun x hx => by cases hx)] at c2
                rw [why_sub hwy.out.symm (d.roots ++ d.roots) (fun x hx => by rcases List.mem_append.1 hx with hx | hx <;> exact hx)] at c4
                have hcW : Hid (Below W9.heap.size W9 W9.drew) := Lib.hid (Below.refl _ _).drew
                have mk1 : Hid True := Lib.hid trivial
                have mk2 : Hid True := Lib.hid trivial
                have A9 := Lib.hid a9
                obtain ⟨⟨q0, q1, q2, q3, q4, q5, q6, q7, q8⟩, ⟨n0, n1, n2, n3, n4, n5, n6, n7, n8⟩, ⟨t0, t1, t2, t3, t4, t5, t6, t7, t8⟩, ⟨v0, v1, v2, v3, v4, v5, v6, v7, v8⟩⟩ := HP9.out W9 (Below.refl _ _)
                clear HX9 a9 nN9 nT9 nS9 z9 y9 HX HRd HZ HGS HQ HA hN0 hN2 hne
                go_wp2_with fail
                go_region_held3 (fun w' => (w'.cell? ⟨w.heap.size, 0, none⟩ = some (.int .i64 ya) ∧ w'.cell? ⟨w.heap.size, 1, none⟩ = some (.slice yA yn yc) ∧ w'.cell? ⟨w.heap.size, 2, none⟩ = some (.int .i64 oa) ∧ w'.cell? ⟨w.heap.size, 3, none⟩ = some (.slice oA on oc) ∧ w'.cell? ⟨w.heap.size, 4, none⟩ = some (.int .i64 ds) ∧ w'.cell? ⟨w.heap.size, 5, none⟩ = some (.int .i64 dm) ∧ w'.cell? ⟨w.heap.size, 6, none⟩ = some (.slice F fm fc) ∧ w'.cell? ⟨w.heap.size, 7, none⟩ = some (.slice none 0 rc) ∧ w'.cell? ⟨w.heap.size, 8, none⟩ = some (.slice H hm hc)) ∧ (w'.cell? ⟨N0, 0, none⟩ = some (.int .i64 ya) ∧ w'.cell? ⟨N0, 1, none⟩ = some (.slice yA yn yc) ∧ w'.cell? ⟨N0, 2, none⟩ = some (.int .i64 oa) ∧ w'.cell? ⟨N0, 3, none⟩ = some (.slice oA on oc) ∧ w'.cell? ⟨N0, 4, none⟩ = some (.int .i64 ds) ∧ w'.cell? ⟨N0, 5, none⟩ = some (.int .i64 dm) ∧ w'.cell? ⟨N0, 6, none⟩ = some (.slice F fm fc) ∧ w'.cell? ⟨N0, 7, none⟩ = some (.slice none 0 0) ∧ w'.cell? ⟨N0, 8, none⟩ = some (.slice H hm hc)) ∧ (w'.cell? ⟨N0 + 1, 0, none⟩ = some (.int .i64 ya) ∧ w'.cell? ⟨N0 + 1, 1, none⟩ = some (.slice yA yn yc) ∧ w'.cell? ⟨N0 + 1, 2, none⟩ = some (.int .i64 oa) ∧ w'.cell? ⟨N0 + 1, 3, none⟩ = some (.slice oA on oc) ∧ w'.cell? ⟨N0 + 1, 4, none⟩ = some (.int .i64 ds) ∧ w'.cell? ⟨N0 + 1, 5, none⟩ = some (.int .i64 dm) ∧ w'.cell? ⟨N0 + 1, 6, none⟩ = some (.slice F fm fc) ∧ w'.cell? ⟨N0 + 1, 7, none⟩ = some (.slice A6 0 c6) ∧ w'.cell? ⟨N0 + 1, 8, none⟩ = some (.slice H hm hc)) ∧ (w'.cell? ⟨N2, 0, none⟩ = some (.int .i64 ya) ∧ w'.cell? ⟨N2, 1, none⟩ = some (.slice yA yn yc) ∧ w'.cell? ⟨N2, 2, none⟩ = some (.int .i64 oa) ∧ w'.cell? ⟨N2, 3, none⟩ = some (.slice oA on oc) ∧ w'.cell? ⟨N2, 4, none⟩ = some (.int .i64 ds) ∧ w'.cell? ⟨N2, 5, none⟩ = some (.int .i64 dm) ∧ w'.cell? ⟨N2, 6, none⟩ = some (.slice F fm fc) ∧ w'.cell? ⟨N2, 7, none⟩ = some (.slice none 0 rc) ∧ w'.cell? ⟨N2, 8, none⟩ = some (.slice H hm hc)))
                  (first | with_reducible exact HP9.out _ hcW.out)
                  (first
                    | (go_at_call 19; have Q := c0.out _ hcW.out; (with_reducible refine Q.mono ?_); clear Q; rintro e x1 ⟨⟨l0, hl0, rfl⟩, hb⟩; rw [rchd_nil hl0, show szO [] = 0 from rfl]; clear hl0; replace hcW := Lib.hid (hcW.out.trans (hb.mono hcW.out.size)); clear hb)
                    | (go_at_call 18; have Q := c1.out _ hcW.out; (with_reducible refine Q.mono ?_); clear Q; rintro e x2 ⟨⟨Ah, ch, rfl⟩, hb⟩; replace hcW := Lib.hid (hcW.out.trans (hb.mono hcW.out.size)); clear hb)
                    | (go_at_call 12; have Q := c2.out _ hcW.out; (with_reducible refine Q.mono ?_); clear Q; rintro e x3 ⟨rfl, hb⟩; replace hcW := Lib.hid (hcW.out.trans (hb.mono hcW.out.size)); clear hb)
                    | (go_at_call 12; have Q := c4.out _ hcW.out; (with_reducible refine Q.mono ?_); clear Q; rintro e x4 ⟨rfl, hb⟩; replace hcW := Lib.hid (hcW.out.trans (hb.mono hcW.out.size)); clear hb)
                    | (go_at_call 19; have Q := c3.out _ hcW.out; (with_reducible refine Q.mono ?_); clear Q; rintro e x5 ⟨⟨l1, hl1, rfl⟩, hb⟩; replace hl1 := Lib.hid hl1; replace hcW := Lib.hid (hcW.out.trans (hb.mono hcW.out.size)); clear hb)
                    | (go_at_call 19; clear mk1; have Q := c6'.out _ hcW.out; (with_reducible refine Q.mono ?_); clear Q; rintro e x7 ⟨⟨l2, hl2, rfl⟩, hb⟩; have hd5 : (szO l1 == szO l2) = true := beq_iff_eq.2 (Int.le_antisymm (szO_le (fun x hx => (by rcases List.mem_append.1 hx with hx | hx <;> exact hx)) hl1.out hl2) (szO_le (fun x hx => List.mem_append_left _ hx) hl2 hl1.out)); clear hl2; replace hcW := Lib.hid (hcW.out.trans (hb.mono hcW.out.size)); clear hb)
                    | (go_at_call 19; clear mk2; have Q := c5.out _ hcW.out; (with_reducible refine Q.mono ?_); clear Q; rintro e x6 ⟨⟨l3, hl3, rfl⟩, hb⟩; replace hl3 := Lib.hid hl3; replace hcW := Lib.hid (hcW.out.trans (hb.mono hcW.out.size)); clear hb)
                    | (go_at_call 19; have Q := c6'.out _ hcW.out; (with_reducible refine Q.mono ?_); clear Q; rintro e x8 ⟨⟨l4, hl4, rfl⟩, hb⟩; have hd6 : decide (szO l3 ≤ szO l4) = true := decide_eq_true (szO_le (fun x hx => List.mem_of_mem_take hx) hl3.out hl4); clear hl4; replace hcW := Lib.hid (hcW.out.trans (hb.mono hcW.out.size)); clear hb)
                    | (go_at_call 8; (with_reducible refine (awake12_any _).mono ?_); rintro e x9 ⟨rfl, hb⟩; replace hcW := Lib.hid (hcW.out.trans (hb.mono hcW.out.size)); clear hb))
                go_wp2
                go_ret
                exact ⟨rfl, HE.out _ (A9.out.trans (hcW.out.mono A9.out.size))⟩
            · go_wp2_with fail
              apply region_one
              case h1 =>
                go_region_held3 (fun w' => w'.cell? ⟨w.heap.size, 7, none⟩ = some (.slice (some ⟨b, o, sp⟩) i rc))
                  (first | exact d7 | exact (World.cell?_setCell_other _ _ _ _ hne).trans d7)
                  (first | (go_at_call 22; (with_reducible refine (HL.out _).mono ?_); rintro e w9 ⟨rfl, rfl⟩))
                all_goals exact ⟨rfl, rfl⟩
              case h2 =>
                have a9 := (AA8.out.setCell (p := ⟨N2, 7, none⟩) (show wa.heap.size ≤ N2 by omega) (.slice (some ⟨b, o, sp⟩) j rc)).drew
                have k9 := ((Below.refl N2 W8).setCell (p := ⟨N2, 7, none⟩) (Nat.le_refl _) (.slice (some ⟨b, o, sp⟩) j rc)).drew
                have nN9 := (k9.block N0 (by omega)).trans NN8.out
                have nT9 := (k9.block (N0 + 1) (by omega)).trans NT8.out
                have nS9 : (W8.setCell ⟨N2, 7, none⟩ (.slice (some ⟨b, o, sp⟩) j rc)).drew.heap[N2]? = some (.cells #[.int .i64 ya, .slice yA yn yc, .int .i64 oa, .slice oA on oc, .int .i64 ds, .int .i64 dm, .slice F fm fc, .slice (some ⟨b, o, sp⟩) j rc, .slice H hm hc] 28 (0, 0)) := by
                  show (W8.setCell ⟨N2, 7, none⟩ (.slice (some ⟨b, o, sp⟩) j rc)).heap[N2]? = _
                  rw [heap_setCell_same W8 N2 7 _ _ _ NS8.out]; simp
                have z9 : Zs .u64 (W8.setCell ⟨N2, 7, none⟩ (.slice (some ⟨b, o, sp⟩) j rc)).drew A6 (i + i) c6 (d.roots ++ d.roots) := (Z8.out.ku (KU.set s7 (fun x e => by cases e) (.slice (some ⟨b, o, sp⟩) j rc)) k9.size).drewN 1
                have y9 : Zs .u64 (W8.setCell ⟨N2, 7, none⟩ (.slice (some ⟨b, o, sp⟩) j rc)).drew (some ⟨b, o, sp⟩) j rc (d.roots.take j) := zs_pre (((HZ.out W8 AA8.out).ku (KU.set s7 (fun x e => by cases e) _) k9.size).drewN 1) (by omega)
                clear k9 d7 s7 g7 HL AA8 NN8 NT8 NS8 Z8
                generalize (W8.setCell ⟨N2, 7, none⟩ (.slice (some ⟨b, o, sp⟩) j rc)).drew = W9 at *
                have HP9 : Hid (∀ w', Below W9.heap.size W9 w' → (w'.cell? ⟨w.heap.size, 0, none⟩ = some (.int .i64 ya) ∧ w'.cell? ⟨w.heap.size, 1, none⟩ = some (.slice yA yn yc) ∧ w'.cell? ⟨w.heap.size, 2, none⟩ = some (.int .i64 oa) ∧ w'.cell? ⟨w.heap.size, 3, none⟩ = some (.slice oA on oc) ∧ w'.cell? ⟨w.heap.size, 4, none⟩ = some (.int .i64 ds) ∧ w'.cell? ⟨w.heap.size, 5, none⟩ = some (.int .i64 dm) ∧ w'.cell? ⟨w.heap.size, 6, none⟩ = some (.slice F fm fc) ∧ w'.cell? ⟨w.heap.size, 7, none⟩ = some (.slice (some ⟨b, o, sp⟩) i rc) ∧ w'.cell? ⟨w.heap.size, 8, none⟩ = some (.slice H hm hc)) ∧ (w'.cell? ⟨N0, 0, none⟩ = some (.int .i64 ya) ∧ w'.cell? ⟨N0, 1, none⟩ = some (.slice yA yn yc) ∧ w'.cell? ⟨N0, 2, none⟩ = some (.int .i64 oa) ∧ w'.cell? ⟨N0, 3, none⟩ = some (.slice oA on oc) ∧ w'.cell? ⟨N0, 4, none⟩ = some (.int .i64 ds) ∧ w'.cell? ⟨N0, 5, none⟩ = some (.int .i64 dm) ∧ w'.cell? ⟨N0, 6, none⟩ = some (.slice F fm fc) ∧ w'.cell? ⟨N0, 7, none⟩ = some (.slice none 0 0) ∧ w'.cell? ⟨N0, 8, none⟩ = some (.slice H hm hc)) ∧ (w'.cell? ⟨N0 + 1, 0, none⟩ = some (.int .i64 ya) ∧ w'.cell? ⟨N0 + 1, 1, none⟩ = some (.slice yA yn yc) ∧ w'.cell? ⟨N0 + 1, 2, none⟩ = some (.int .i64 oa) ∧ w'.cell? ⟨N0 + 1, 3, none⟩ = some (.slice oA on oc) ∧ w'.cell? ⟨N0 + 1, 4, none⟩ = some (.int .i64 ds) ∧ w'.cell? ⟨N0 + 1, 5, none⟩ = some (.int .i64 dm) ∧ w'.cell? ⟨N0 + 1, 6, none⟩ = some (.slice F fm fc) ∧ w'.cell? ⟨N0 + 1, 7, none⟩ = some (.slice A6 (i + i) c6) ∧ w'.cell? ⟨N0 + 1, 8, none⟩ = some (.slice H hm hc)) ∧ (w'.cell? ⟨N2, 0, none⟩ = some (.int .i64 ya) ∧ w'.cell? ⟨N2, 1, none⟩ = some (.slice yA yn yc) ∧ w'.cell? ⟨N2, 2, none⟩ = some (.int .i64 oa) ∧ w'.cell? ⟨N2, 3, none⟩ = some (.slice oA on oc) ∧ w'.cell? ⟨N2, 4, none⟩ = some (.int .i64 ds) ∧ w'.cell? ⟨N2, 5, none⟩ = some (.int .i64 dm) ∧ w'.cell? ⟨N2, 6, none⟩ = some (.slice F fm fc) ∧ w'.cell? ⟨N2, 7, none⟩ = some (.slice (some ⟨b, o, sp⟩) j rc) ∧ w'.cell? ⟨N2, 8, none⟩ = some (.slice H hm hc))) := Lib.hid (fun w' hb => by
                  have m0 := (hb.block N0 (Array.getElem?_eq_some_iff.1 nN9).1).trans nN9
                  have m1 := (hb.block (N0 + 1) (Array.getElem?_eq_some_iff.1 nT9).1).trans nT9
                  have m2 := (hb.block N2 (Array.getElem?_eq_some_iff.1 nS9).1).trans nS9
                  exact ⟨HQ.out w' (a9.trans (hb.mono a9.size)), ⟨(cell_of_row w' N0 0 _ _ (0, 0) m0).trans rfl, (cell_of_row w' N0 1 _ _ (0, 0) m0).trans rfl, (cell_of_row w' N0 2 _ _ (0, 0) m0).trans rfl, (cell_of_row w' N0 3 _ _ (0, 0) m0).trans rfl, (cell_of_row w' N0 4 _ _ (0, 0) m0).trans rfl, (cell_of_row w' N0 5 _ _ (0, 0) m0).trans rfl, (cell_of_row w' N0 6 _ _ (0, 0) m0).trans rfl, (cell_of_row w' N0 7 _ _ (0, 0) m0).trans rfl, (cell_of_row w' N0 8 _ _ (0, 0) m0).trans rfl⟩, ⟨(cell_of_row w' (N0 + 1) 0 _ _ (0, 0) m1).trans rfl, (cell_of_row w' (N0 + 1) 1 _ _ (0, 0) m1).trans rfl, (cell_of_row w' (N0 + 1) 2 _ _ (0, 0) m1).trans rfl, (cell_of_row w' (N0 + 1) 3 _ _ (0, 0) m1).trans rfl, (cell_of_row w' (N0 + 1) 4 _ _ (0, 0) m1).trans rfl, (cell_of_row w' (N0 + 1) 5 _ _ (0, 0) m1).trans rfl, (cell_of_row w' (N0 + 1) 6 _ _ (0, 0) m1).trans rfl, (cell_of_row w' (N0 + 1) 7 _ _ (0, 0) m1).trans rfl, (cell_of_row w' (N0 + 1) 8 _ _ (0, 0) m1).trans rfl⟩, ⟨(cell_of_row w' N2 0 _ _ (0, 0) m2).trans rfl, (cell_of_row w' N2 1 _ _ (0, 0) m2).trans rfl, (cell_of_row w' N2 2 _ _ (0, 0) m2).trans rfl, (cell_of_row w' N2 3 _ _ (0, 0) m2).trans rfl, (cell_of_row w' N2 4 _ _ (0, 0) m2).trans rfl, (cell_of_row w' N2 5 _ _ (0, 0) m2).trans rfl, (cell_of_row w' N2 6 _ _ (0, 0) m2).trans rfl, (cell_of_row w' N2 7 _ _ (0, 0) m2).trans rfl, (cell_of_row w' N2 8 _ _ (0, 0) m2).trans rfl⟩⟩)
                have HX9 : ∀ w', Below W9.heap.size W9 w' → ∀ (R' : Option Addr) (m' c' : Nat) (rs' : List Int), Zs .u64 w' R' m' c' rs' → m' ≤ 1000 → _ := fun w' hb => HX.out hs1.out hq1.out w' (a9.trans (hb.mono a9.size))
                have c0 := Lib.hid (fun w' hb => (HX9 w' hb none 0 0 [] (Zs.nil _ _) (by omega)).1 hsep.out)
                have c1 := Lib.hid (fun w' hb => (HX9 w' hb none 0 0 [] (Zs.nil _ _) (by omega)).2.2 rfl)
                have c2 := Lib.hid (fun w' hb => (HX9 w' hb none 0 0 [] (Zs.nil _ _) (by omega)).2.1)
                have c3 := Lib.hid (fun w' (hb : Below W9.heap.size W9 w') => (HX9 w' hb A6 (i + i) c6 (d.roots ++ d.roots) (z9.below hb) (by omega)).1 hsep.out)
                have c4 := Lib.hid (fun w' (hb : Below W9.heap.size W9 w') => (HX9 w' hb A6 (i + i) c6 (d.roots ++ d.roots) (z9.below hb) (by omega)).2.1)
                have c5 := Lib.hid (fun w' (hb : Below W9.heap.size W9 w') => (HX9 w' hb (some ⟨b, o, sp⟩) j rc (d.roots.take j) (y9.below hb) (by omega)).1 hsep.out)
                have c6' := Lib.hid (fun w' (hb : Below W9.heap.size W9 w') => (HX9 w' hb (some ⟨b, o, sp⟩) i rc d.roots (HZ.out w' (a9.trans (hb.mono a9.size))) (by omega)).1 hsep.out)
                rw [why_sub hwy.out.symm [] (fun x hx => by cases hx)] at c2
                rw [why_sub hwy.out.symm (d.roots ++ d.roots) (fun x hx => by rcases List.mem_append.1 hx with hx | hx <;> exact hx)] at c4
                have hcW : Hid (Below W9.heap.size W9 W9.drew) := Lib.hid (Below.refl _ _).drew
                have mk1 : Hid True := Lib.hid trivial
                have mk2 : Hid True := Lib.hid trivial
                have A9 := Lib.hid a9
                obtain ⟨⟨q0, q1, q2, q3, q4, q5, q6, q7, q8⟩, ⟨n0, n1, n2, n3, n4, n5, n6, n7, n8⟩, ⟨t0, t1, t2, t3, t4, t5, t6, t7, t8⟩, ⟨v0, v1, v2, v3, v4, v5, v6, v7, v8⟩⟩ := HP9.out W9 (Below.refl _ _)
                clear HX9 a9 nN9 nT9 nS9 z9 y9 HX HRd HZ HGS HQ HA hN0 hN2 hne
                go_wp2_with fail
                go_region_held3 (fun w' => (w'.cell? ⟨w.heap.size, 0, none⟩ = some (.int .i64 ya) ∧ w'.cell? ⟨w.heap.size, 1, none⟩ = some (.slice yA yn yc) ∧ w'.cell? ⟨w.heap.size, 2, none⟩ = some (.int .i64 oa) ∧ w'.cell? ⟨w.heap.size, 3, none⟩ = some (.slice oA on oc) ∧ w'.cell? ⟨w.heap.size, 4, none⟩ = some (.int .i64 ds) ∧ w'.cell? ⟨w.heap.size, 5, none⟩ = some (.int .i64 dm) ∧ w'.cell? ⟨w.heap.size, 6, none⟩ = some (.slice F fm fc) ∧ w'.cell? ⟨w.heap.size, 7, none⟩ = some (.slice (some ⟨b, o, sp⟩) i rc) ∧ w'.cell? ⟨w.heap.size, 8, none⟩ = some (.slice H hm hc)) ∧ (w'.cell? ⟨N0, 0, none⟩ = some (.int .i64 ya) ∧ w'.cell? ⟨N0, 1, none⟩ = some (.slice yA yn yc) ∧ w'.cell? ⟨N0, 2, none⟩ = some (.int .i64 oa) ∧ w'.cell? ⟨N0, 3, none⟩ = some (.slice oA on oc) ∧ w'.cell? ⟨N0, 4, none⟩ = some (.int .i64 ds) ∧ w'.cell? ⟨N0, 5, none⟩ = some (.int .i64 dm) ∧ w'.cell? ⟨N0, 6, none⟩ = some (.slice F fm fc) ∧ w'.cell? ⟨N0, 7, none⟩ = some (.slice none 0 0) ∧ w'.cell? ⟨N0, 8, none⟩ = some (.slice H hm hc)) ∧ (w'.cell? ⟨N0 + 1, 0, none⟩ = some (.int .i64 ya) ∧ w'.cell? ⟨N0 + 1, 1, none⟩ = some (.slice yA yn yc) ∧ w'.cell? ⟨N0 + 1, 2, none⟩ = some (.int .i64 oa) ∧ w'.cell? ⟨N0 + 1, 3, none⟩ = some (.slice oA on oc) ∧ w'.cell? ⟨N0 + 1, 4, none⟩ = some (.int .i64 ds) ∧ w'.cell? ⟨N0 + 1, 5, none⟩ = some (.int .i64 dm) ∧ w'.cell? ⟨N0 + 1, 6, none⟩ = some (.slice F fm fc) ∧ w'.cell? ⟨N0 + 1, 7, none⟩ = some (.slice A6 (i + i) c6) ∧ w'.cell? ⟨N0 + 1, 8, none⟩ = some (.slice H hm hc)) ∧ (w'.cell? ⟨N2, 0, none⟩ = some (.int .i64 ya) ∧ w'.cell? ⟨N2, 1, none⟩ = some (.slice yA yn yc) ∧ w'.cell? ⟨N2, 2, none⟩ = some (.int .i64 oa) ∧ w'.cell? ⟨N2, 3, none⟩ = some (.slice oA on oc) ∧ w'.cell? ⟨N2, 4, none⟩ = some (.int .i64 ds) ∧ w'.cell? ⟨N2, 5, none⟩ = some (.int .i64 dm) ∧ w'.cell? ⟨N2, 6, none⟩ = some (.slice F fm fc) ∧ w'.cell? ⟨N2, 7, none⟩ = some (.slice (some ⟨b, o, sp⟩) j rc) ∧ w'.cell? ⟨N2, 8, none⟩ = some (.slice H hm hc)))
                  (first | with_reducible exact HP9.out _ hcW.out)
                  (first
                    | (go_at_call 19; have Q := c0.out _ hcW.out; (with_reducible refine Q.mono ?_); clear Q; rintro e x1 ⟨⟨l0, hl0, rfl⟩, hb⟩; rw [rchd_nil hl0, show szO [] = 0 from rfl]; clear hl0; replace hcW := Lib.hid (hcW.out.trans (hb.mono hcW.out.size)); clear hb)
                    | (go_at_call 18; have Q := c1.out _ hcW.out; (with_reducible refine Q.mono ?_); clear Q; rintro e x2 ⟨⟨Ah, ch, rfl⟩, hb⟩; replace hcW := Lib.hid (hcW.out.trans (hb.mono hcW.out.size)); clear hb)
                    | (go_at_call 12; have Q := c2.out _ hcW.out; (with_reducible refine Q.mono ?_); clear Q; rintro e x3 ⟨rfl, hb⟩; replace hcW := Lib.hid (hcW.out.trans (hb.mono hcW.out.size)); clear hb)
                    | (go_at_call 12; have Q := c4.out _ hcW.out; (with_reducible refine Q.mono ?_); clear Q; rintro e x4 ⟨rfl, hb⟩; replace hcW := Lib.hid (hcW.out.trans (hb.mono hcW.out.size)); clear hb)
                    | (go_at_call 19; have Q := c3.out _ hcW.out; (with_reducible refine Q.mono ?_); clear Q; rintro e x5 ⟨⟨l1, hl1, rfl⟩, hb⟩; replace hl1 := Lib.hid hl1; replace hcW := Lib.hid (hcW.out.trans (hb.mono hcW.out.size)); clear hb)
                    | (go_at_call 19; clear mk1; have Q := c6'.out _ hcW.out; (with_reducible refine Q.mono ?_); clear Q; rintro e x7 ⟨⟨l2, hl2, rfl⟩, hb⟩; have hd5 : (szO l1 == szO l2) = true := beq_iff_eq.2 (Int.le_antisymm (szO_le (fun x hx => (by rcases List.mem_append.1 hx with hx | hx <;> exact hx)) hl1.out hl2) (szO_le (fun x hx => List.mem_append_left _ hx) hl2 hl1.out)); clear hl2; replace hcW := Lib.hid (hcW.out.trans (hb.mono hcW.out.size)); clear hb)
                    | (go_at_call 19; clear mk2; have Q := c5.out _ hcW.out; (with_reducible refine Q.mono ?_); clear Q; rintro e x6 ⟨⟨l3, hl3, rfl⟩, hb⟩; replace hl3 := Lib.hid hl3; replace hcW := Lib.hid (hcW.out.trans (hb.mono hcW.out.size)); clear hb)
                    | (go_at_call 19; have Q := c6'.out _ hcW.out; (with_reducible refine Q.mono ?_); clear Q; rintro e x8 ⟨⟨l4, hl4, rfl⟩, hb⟩; have hd6 : decide (szO l3 ≤ szO l4) = true := decide_eq_true (szO_le (fun x hx => List.mem_of_mem_take hx) hl3.out hl4); clear hl4; replace hcW := Lib.hid (hcW.out.trans (hb.mono hcW.out.size)); clear hb)
                    | (go_at_call 8; (with_reducible refine (awake12_any _).mono ?_); rintro e x9 ⟨rfl, hb⟩; replace hcW := Lib.hid (hcW.out.trans (hb.mono hcW.out.size)); clear hb))
                go_wp2
                go_ret
                exact ⟨rfl, HE.out _ (A9.out.trans (hcW.out.mono A9.out.size))⟩
    · go_ret
      exact ⟨rfl, HE.out _ hk.out⟩
    · go_ret
      exact ⟨rfl, HE.out _ hk.out⟩
  · have hy2 : wy.toList.isEmpty = false := by
      rw [hwy.out] at hy ⊢
      exact why_ne hy
    go_enter Tryz.func4, Tryz.ntmps4
    go_upto_region 1 with fail
    rw [← hwa]
    clear hwa
    go_wp2_with (first
      | (go_at_call 6; (with_reducible refine (HG.out _ hk.out).mono ?_); rintro e w1 ⟨⟨g1, rfl, hg1⟩, hb1⟩; replace hk := Lib.hid (hk.out.trans (hb1.mono hk.out.size)); clear hb1; clear q0 q1 q2 q3 q4 q5 q6 q7 q8; obtain ⟨q0, q1, q2, q3, q4, q5, q6, q7, q8⟩ := HQ.out _ hk.out; replace hg1 := Lib.hid hg1; (cases g1))
      | (go_at_call 8; (with_reducible refine (awake12_any _).mono ?_); rintro e w9 ⟨rfl, hb9⟩; replace hk := Lib.hid (hk.out.trans (hb9.mono hk.out.size)); clear hb9)
      | (go_at_call 7; (with_reducible refine (HGS.out _ hk.out).mono ?_); rintro e w2 ⟨⟨g2, rfl, hg2⟩, rfl⟩; replace hg2 := Lib.hid hg2; (cases g2))
      | (go_at_call 12; have HW3 := HW.out _ hk.out (hg1.out (by first | rfl | exact trivial)) (hg2.out (by first | rfl | exact trivial)).1; (with_reducible refine HW3.mono ?_); clear HW3; rintro e w3 ⟨rfl, hb3⟩; replace hk := Lib.hid (hk.out.trans (hb3.mono hk.out.size)); clear hb3; clear q0 q1 q2 q3 q4 q5 q6 q7 q8; obtain ⟨q0, q1, q2, q3, q4, q5, q6, q7, q8⟩ := HQ.out _ hk.out))
    all_goals go_ret
    all_goals exact ⟨rfl, HE.out _ hk.out⟩
end Go.Proofs.YtejmmjedognaaaaGreat
