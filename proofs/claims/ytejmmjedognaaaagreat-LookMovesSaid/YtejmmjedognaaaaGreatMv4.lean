/-
  THE REFERENCE's LOOK: Regions, at, small.
  THE REFERENCE's LOOK: at, small.
  WORDS: their tags and loads, and the program's functions on them.
-/
import Derived.Test.YtejmmjedognaaaaGreatMv3
import Derived.Test.YtejmmjedognaaaaGreatProg
import Derived.WalkKit
import Derived.WalkSpells
import Derived.Lib.Hide
import Derived.Lib.BitFns
import Derived.Below
import Derived.BigQuiet
import Derived.Deep.QuietTactic
import Derived.Deep.Draws
namespace Go.Proofs.YtejmmjedognaaaaGreat
open Go.RowKit
open St

/-- The words from an address on. -/
def atL : List Frg → Int → List Int
  | [], _ => []
  | f :: fs, a => if 0 ≤ f.at_ ∧ f.at_ ≤ a ∧ a - f.at_ < (f.ws.length : Int) then f.ws.drop (a - f.at_).toNat else atL fs a
def inF (f : Frg) (a : Int) : Prop := 0 ≤ f.at_ ∧ f.at_ ≤ a ∧ a - f.at_ < (f.ws.length : Int)
set_option maxRecDepth 100000 in
theorem atL_step {fs : List Frg} {i : Nat} {a : Int} (h : i < fs.length) : (inF (fs.getD i Frg.zero) a → atL (fs.drop i) a = (fs.getD i Frg.zero).ws.drop (a - (fs.getD i Frg.zero).at_).toNat) ∧ (¬ inF (fs.getD i Frg.zero) a → atL (fs.drop i) a = atL (fs.drop (i + 1)) a) := by
  have e : fs.drop i = fs.getD i Frg.zero :: fs.drop (i + 1) := by
    rw [List.drop_eq_getElem_cons h]
    simp [h]
  rw [e]
  generalize fs.getD i Frg.zero = f
  refine ⟨fun hf => ?_, fun hf => ?_⟩
  · show (if 0 ≤ f.at_ ∧ f.at_ ≤ a ∧ a - f.at_ < (f.ws.length : Int) then f.ws.drop (a - f.at_).toNat else atL (fs.drop (i + 1)) a) = _
    exact if_pos hf
  · show (if 0 ≤ f.at_ ∧ f.at_ ≤ a ∧ a - f.at_ < (f.ws.length : Int) then f.ws.drop (a - f.at_).toNat else atL (fs.drop (i + 1)) a) = _
    exact if_neg hf

/-- What Regions answers. -/
def RgP (w : World) (r : DR) (d : Dmp) (e : Ending) (w' : World) : Prop :=
  ∃ A c, e = .returned (.slice A (r.fm + 2) c) ∧ FVs w' A (r.fm + 2) c (r.y :: r.o :: r.rs) (d.y :: d.o :: d.fs) ∧ Below w.heap.size w w'

set_option maxRecDepth 100000 in
theorem fvs_cells {w : World} {A : Option Addr} {m c : Nat} {rs : List FR} {fs : List Frg} {b o : Nat} (h : FVs w A m c rs fs) (hA : A = some ⟨b, o, none⟩) : ∀ j u, (frcs rs)[j]? = some u → w.cell? ⟨b, o + j, none⟩ = some u := by
  subst hA
  intro j u hu
  have hj : j < m * 2 := by
    have := (List.getElem?_eq_some_iff.1 hu).1
    rw [frcs_len, h.len] at this
    exact this
  obtain ⟨b', o', e, _, hc⟩ := h.el (by omega)
  cases e
  have h1 := hc (j / 2) (by omega) (j % 2) (by omega)
  rw [show o + j / 2 * 2 + j % 2 = o + j by omega] at h1
  rw [h1, ← frcs_get rs (j / 2) (j % 2) (by rw [h.len]; omega) (by omega), show j / 2 * 2 + j % 2 = j by omega]
  exact hu

set_option maxRecDepth 100000 in
/-- Regions are put behind two. -/
theorem rg_app {w : World} {g : Nat} {r0 r1 : FR} {A : Option Addr} {m c : Nat} {rs : List FR} {fs : List Frg} (hg : w.heap[g]? = some (.cells #[.int .i64 r0.at_, .slice r0.A r0.n r0.c, .int .i64 r1.at_, .slice r1.A r1.n r1.c] 24 (0, 0))) (h : FVs w A m c rs fs) (hm : m ≤ 1000) (ty : TypeId) :
    ∃ A' c' w', (Builtin.append_ #[25, 25] ty #[.slice (some ⟨g, 0, none⟩) 2 2, .slice A m c]).run Tryz.prog w = .ok (.slice A' (m + 2) c') w' ∧ w'.ownsRow g 24 2 (.slice A' (m + 2) c') (m + 2) (frcs (r0 :: r1 :: rs)) ∧ w.grownBy w' (some g) := by
  obtain ⟨i, hi, hz, hs, hb⟩ := info_fr'
  have hrow : w.ownsRow g 24 2 (.slice (some ⟨g, 0, none⟩) 2 2) 2 (frcs [r0, r1]) :=
    ⟨rfl, .inr ⟨g, 2, _, rfl, Nat.le_refl _, hg, Nat.le_refl _, by unfold maxLen; omega, rfl, rfl⟩⟩
  have hgl : g ≤ w.heap.size := Nat.le_of_lt (Array.getElem?_eq_some_iff.1 hg).1
  by_cases hA : A = none ∧ m = 0 ∧ c = 0
  · obtain ⟨rfl, rfl, rfl⟩ := hA
    have hl : rs = [] := List.eq_nil_of_length_eq_zero h.len
    subst hl
    exact ⟨some ⟨g, 0, none⟩, 2, w, run_append_owned_none w g 25 ty 24 i 2 und_fs hi _ 2 _ hrow, hrow, ⟨rfl, rfl, rfl, Nat.le_refl _, fun _ _ _ => rfl⟩⟩
  · have key : ∀ a : Addr, A = some a → (∀ j u, (frcs rs)[j]? = some u → w.cell? (a.add j) = some u) → ∃ A' c' w', (Builtin.append_ #[25, 25] ty #[.slice (some ⟨g, 0, none⟩) 2 2, .slice A m c]).run Tryz.prog w = .ok (.slice A' (m + 2) c') w' ∧ w'.ownsRow g 24 2 (.slice A' (m + 2) c') (m + 2) (frcs (r0 :: r1 :: rs)) ∧ w.grownBy w' (some g) := by
      intro a ha hcell
      obtain ⟨v', w', hrun, ho, hgr, _, _⟩ := run_append_own_at (P := Tryz.prog) w g 25 ty 24 i (.agg #[.int .i64 0, .slice none 0 0]) 2 32 und_fs hi hz hs hb rfl (by decide) (.slice (some ⟨g, 0, none⟩) 2 2) 2 (frcs [r0, r1]) hrow a m c (frcs rs) (by rw [frcs_len, h.len]) hcell (frcs_one rs) (by unfold maxLen; omega) (by omega) hgl
      have hform : ∃ A' c', v' = .slice A' (2 + m) c' := by
        rcases ho.2 with ⟨_, e⟩ | ⟨g, cap, cur, rfl, _⟩
        · omega
        · exact ⟨_, _, rfl⟩
      obtain ⟨A', c', rfl⟩ := hform
      rw [ha]
      rw [Nat.add_comm 2 m] at hrun ho
      exact ⟨A', c', w', hrun, ho, hgr⟩
    by_cases h0 : m = 0
    · cases hAA : A with
      | none =>
        have hl : rs = [] := List.eq_nil_of_length_eq_zero (by rw [h.len, h0])
        subst hl
        subst h0
        refine ⟨some ⟨g, 0, none⟩, 2, w, ?_, hrow, ⟨rfl, rfl, rfl, Nat.le_refl _, fun _ _ _ => rfl⟩⟩
        simp [Builtin.append_, run_underlying und_fs, sizeOf, typeInfo, hi, Builtin.lenOf, Builtin.firstCells, storeCells]
      | some a =>
        have hl : rs = [] := List.eq_nil_of_length_eq_zero (by rw [h.len, h0])
        rw [← hAA]
        exact key a hAA (fun j u hu => by rw [hl] at hu; simp [frcs] at hu)
    · obtain ⟨b, o, hAA, _⟩ := h.some (by omega)
      exact key ⟨b, o, none⟩ hAA (fun j u hu => by rw [Lk.addN]; exact fvs_cells h hAA j u hu)

set_option maxRecDepth 100000 in
set_option maxRecDepth 100000 in
set_option maxHeartbeats 2000000 in
theorem regions12_any {w : World} {r : DR} {d : Dmp} (h : DV w r d) (hm : r.fm ≤ 1000) :
    Calls Tryz.prog 69 #[.agg #[.int .i64 r.y.at_, .slice r.y.A r.y.n r.y.c, .int .i64 r.o.at_, .slice r.o.A r.o.n r.o.c, .int .i64 r.size, .int .i64 r.mark, .slice r.F r.fm r.fc, .slice r.R r.rm r.rc, .slice r.H r.hm r.hc]] w (RgP w r d) := by
  obtain ⟨wa, hwa⟩ : ∃ wa, wa = w.alloc (.cells #[.int .i64 r.y.at_, .slice r.y.A r.y.n r.y.c, .int .i64 r.o.at_, .slice r.o.A r.o.n r.o.c, .int .i64 r.size, .int .i64 r.mark, .slice r.F r.fm r.fc, .slice r.R r.rm r.rc, .slice r.H r.hm r.hc] 28) := ⟨_, rfl⟩
  have hba : Below w.heap.size w wa := by rw [hwa]; exact (Below.refl _ w).alloc (Nat.le_refl _) _
  have xa : Bx wa w.heap.size r := ⟨by rw [hwa]; exact heap_alloc_new w _⟩
  have hbb : Below wa.heap.size wa (wa.alloc (.cells #[.int .i64 r.y.at_, .slice r.y.A r.y.n r.y.c, .int .i64 r.o.at_, .slice r.o.A r.o.n r.o.c] 24)) := (Below.refl _ wa).alloc (Nat.le_refl _) _
  have hv := h.below (hba.trans (hbb.mono hba.size))
  obtain ⟨A', c', w', hrun, ho, hg⟩ := rg_app (g := wa.heap.size) (heap_alloc_new wa _) hv.fs hm 25
  have hbe : Below w.heap.size w w' := (hba.trans (hbb.mono hba.size)).trans ⟨hg.os, hg.tape, hg.output, hg.size, fun k hk => hg.block k (by have := hba.size; simp; omega) (fun e => by injection e with e; have := hba.size; omega)⟩
  have hbe2 : Below (wa.alloc (.cells #[.int .i64 r.y.at_, .slice r.y.A r.y.n r.y.c, .int .i64 r.o.at_, .slice r.o.A r.o.n r.o.c] 24)).heap.size w w' → True := fun _ => trivial
  have hv' := h.below hbe
  have HF : Hid (FVs w' A' (r.fm + 2) c' (r.y :: r.o :: r.rs) (d.y :: d.o :: d.fs)) := Lib.hid (by
    have hfv : ∀ i, i < r.fm + 2 → FV w' ((r.y :: r.o :: r.rs).getD i FR.zero) ((d.y :: d.o :: d.fs).getD i Frg.zero) := fun i hi => by
      match i, hi with
      | 0, _ => exact hv'.y
      | 1, _ => exact hv'.o
      | i + 2, hi => simpa using hv'.fs.fv i (by omega)
    rcases ho.2 with ⟨_, e⟩ | ⟨g, cap, cur, hv2, _, hgg, hnc, hcm, _⟩
    · omega
    · injection hv2 with e1 _ e3
      subst e1 e3
      refine ⟨by simp [h.fs.len], by simp [h.fs.lef], hnc, hcm, fun _ => ⟨g, 0, rfl, (Array.getElem?_eq_some_iff.1 hgg).1, fun i hi j hj => ?_⟩, hfv⟩
      rw [Nat.zero_add, World.ownsRow.cellAt ho _ (by omega)]
      exact frcs_get _ i j (by simp [h.fs.len]; omega) hj)
  have T1 := Lib.hid hrun
  have HB := Lib.hid hbe
  have c0 := xa.c0
  have c1 := xa.c1
  have c2 := xa.c2
  have c3 := xa.c3
  have c6 := (xa.below hbb xa.lt).c6
  clear hrun ho hg hbe hv hv' hbb hbe2 xa h
  go_enter Tryz.func69, Tryz.ntmps69
  go_upto_region 1 with fail
  rw [← hwa]
  clear hwa
  go_wp2_with (at_builtin; refine wpApp rfl (.tmp 7) (.tmp 9) _ rfl _ _ _ rfl rfl T1.out ?_)
  go_ret
  exact ⟨A', c', rfl, HF.out, HB.out⟩
end Go.Proofs.YtejmmjedognaaaaGreat

namespace Go.Proofs.YtejmmjedognaaaaGreat
open Go.RowKit
open St

/-- A Look in a variable. -/
structure Lx (w : World) (D : Nat) (r : DR) (SA : Option Addr) (sm sc : Nat) (dp : Bool) : Prop where
  blk : w.heap[D]? = some (.cells #[.int .i64 r.y.at_, .slice r.y.A r.y.n r.y.c, .int .i64 r.o.at_, .slice r.o.A r.o.n r.o.c, .int .i64 r.size, .int .i64 r.mark, .slice r.F r.fm r.fc, .slice r.R r.rm r.rc, .slice r.H r.hm r.hc, .slice SA sm sc, .bool dp] 72 (0, 0))
namespace Lx
variable {w w' : World} {D : Nat} {r : DR} {SA : Option Addr} {sm sc : Nat} {dp : Bool}
set_option maxRecDepth 100000 in
theorem lt (h : Lx w D r SA sm sc dp) : D < w.heap.size := (Array.getElem?_eq_some_iff.1 h.blk).1
set_option maxRecDepth 100000 in
theorem below (h : Lx w D r SA sm sc dp) {B : Nat} (hb : Below B w w') (hB : D < B) : Lx w' D r SA sm sc dp := ⟨(hb.block D hB).trans h.blk⟩
set_option maxRecDepth 100000 in
theorem drewN (h : Lx w D r SA sm sc dp) (q : Nat) : Lx (w.drewN q) D r SA sm sc dp := ⟨h.blk⟩
set_option maxRecDepth 100000 in
theorem c0 (h : Lx w D r SA sm sc dp) : w.cell? ⟨D, 0, none⟩ = some (.int .i64 r.y.at_) := (cell_of_row w D 0 _ _ (0, 0) h.blk).trans rfl
set_option maxRecDepth 100000 in
theorem c1 (h : Lx w D r SA sm sc dp) : w.cell? ⟨D, 1, none⟩ = some (.slice r.y.A r.y.n r.y.c) := (cell_of_row w D 1 _ _ (0, 0) h.blk).trans rfl
set_option maxRecDepth 100000 in
theorem c2 (h : Lx w D r SA sm sc dp) : w.cell? ⟨D, 2, none⟩ = some (.int .i64 r.o.at_) := (cell_of_row w D 2 _ _ (0, 0) h.blk).trans rfl
set_option maxRecDepth 100000 in
theorem c3 (h : Lx w D r SA sm sc dp) : w.cell? ⟨D, 3, none⟩ = some (.slice r.o.A r.o.n r.o.c) := (cell_of_row w D 3 _ _ (0, 0) h.blk).trans rfl
set_option maxRecDepth 100000 in
theorem c4 (h : Lx w D r SA sm sc dp) : w.cell? ⟨D, 4, none⟩ = some (.int .i64 r.size) := (cell_of_row w D 4 _ _ (0, 0) h.blk).trans rfl
set_option maxRecDepth 100000 in
theorem c5 (h : Lx w D r SA sm sc dp) : w.cell? ⟨D, 5, none⟩ = some (.int .i64 r.mark) := (cell_of_row w D 5 _ _ (0, 0) h.blk).trans rfl
set_option maxRecDepth 100000 in
theorem c6 (h : Lx w D r SA sm sc dp) : w.cell? ⟨D, 6, none⟩ = some (.slice r.F r.fm r.fc) := (cell_of_row w D 6 _ _ (0, 0) h.blk).trans rfl
set_option maxRecDepth 100000 in
theorem c7 (h : Lx w D r SA sm sc dp) : w.cell? ⟨D, 7, none⟩ = some (.slice r.R r.rm r.rc) := (cell_of_row w D 7 _ _ (0, 0) h.blk).trans rfl
set_option maxRecDepth 100000 in
theorem c8 (h : Lx w D r SA sm sc dp) : w.cell? ⟨D, 8, none⟩ = some (.slice r.H r.hm r.hc) := (cell_of_row w D 8 _ _ (0, 0) h.blk).trans rfl
set_option maxRecDepth 100000 in
theorem c9 (h : Lx w D r SA sm sc dp) : w.cell? ⟨D, 9, none⟩ = some (.slice SA sm sc) := (cell_of_row w D 9 _ _ (0, 0) h.blk).trans rfl
set_option maxRecDepth 100000 in
theorem c10 (h : Lx w D r SA sm sc dp) : w.cell? ⟨D, 10, none⟩ = some (.bool dp) := (cell_of_row w D 10 _ _ (0, 0) h.blk).trans rfl
end Lx

/-- A part of a row that stands. -/
def WsP (w : World) (ws : List Int) (e : Ending) (w' : World) : Prop := ∃ A n c, e = .returned (.slice A n c) ∧ Zs .u64 w' A n c ws ∧ Below w.heap.size w w'

set_option maxRecDepth 100000 in
set_option maxRecDepth 100000 in
set_option maxHeartbeats 4000000 in
theorem at12_any {w : World} {r : DR} {d : Dmp} (h : DV w r d) (hm : r.fm ≤ 1000) (SA : Option Addr) (sm sc : Nat) (dp : Bool) (a : Int) (ha : -9223372036854775808 ≤ a ∧ a ≤ 9223372036854775807) :
    Calls Tryz.prog 74 #[.agg #[.int .i64 r.y.at_, .slice r.y.A r.y.n r.y.c, .int .i64 r.o.at_, .slice r.o.A r.o.n r.o.c, .int .i64 r.size, .int .i64 r.mark, .slice r.F r.fm r.fc, .slice r.R r.rm r.rc, .slice r.H r.hm r.hc, .slice SA sm sc, .bool dp], .int .i64 a] w (WsP w (atL (d.y :: d.o :: d.fs) a)) := by
  obtain ⟨wa, hwa⟩ : ∃ wa, wa = w.alloc (.cells #[.int .i64 r.y.at_, .slice r.y.A r.y.n r.y.c, .int .i64 r.o.at_, .slice r.o.A r.o.n r.o.c, .int .i64 r.size, .int .i64 r.mark, .slice r.F r.fm r.fc, .slice r.R r.rm r.rc, .slice r.H r.hm r.hc, .slice SA sm sc, .bool dp] 72) := ⟨_, rfl⟩
  have hba : Below w.heap.size w wa := by rw [hwa]; exact (Below.refl _ w).alloc (Nat.le_refl _) _
  have HR := Lib.hid (regions12_any (h.below hba) hm)
  have HB := Lib.hid hba
  have xa : Lx wa w.heap.size r SA sm sc dp := ⟨by rw [hwa]; exact heap_alloc_new w _⟩
  have c0 := xa.c0
  have c1 := xa.c1
  have c2 := xa.c2
  have c3 := xa.c3
  have c4 := xa.c4
  have c5 := xa.c5
  have c6 := xa.c6
  have c7 := xa.c7
  have c8 := xa.c8
  clear h hba xa
  go_enter Tryz.func74, Tryz.ntmps74
  go_upto_region 1 with fail
  rw [← hwa]
  clear hwa
  go_wp2_with (go_at_call 69; (with_reducible refine HR.out.mono ?_); rintro e w1 ⟨A, c, rfl, hfs, hb1⟩; have HF := Lib.hid hfs; have HB1 := Lib.hid (HB.out.trans (hb1.mono HB.out.size)); clear hfs hb1 HR HB c0 c1 c2 c3 c4 c5 c6 c7 c8)
  generalize hgs : d.y :: d.o :: d.fs = gs at *
  generalize hgr : r.y :: r.o :: r.rs = rr at *
  clear hgr
  have hlen : gs.length = r.fm + 2 := HF.out.lef
  clear hgs
  generalize hM : r.fm + 2 = M at *
  replace hM := Lib.hid hM
  have hM0 : 0 < M := by have := hM.out; omega
  have hM1 : M ≤ 2000 := by have := hM.out; omega
  obtain ⟨b, o, hA, _⟩ := HF.out.some hM0
  subst hA
  go_loopw [6] (fun x wx => ∃ i q : Nat, i ≤ M ∧ x = .int .i64 (i : Int) ∧ Hid (atL (gs.drop i) a = atL gs a) ∧ wx = w1.drewN q) (fun x _ => M - (intOf x).toNat)
  case atStart => exact ⟨0, 0, Nat.zero_le _, rfl, Lib.hid rfl, rfl⟩
  case round =>
    obtain ⟨i, q, hi, rfl, hat, rfl⟩ := hrel
    by_cases hin : i < M
    · have hd1 : decide ((i : Int) < (M : Int)) = true := decide_eq_true (by omega)
      have HFq := HF.out.drewN q
      obtain ⟨y0, y1⟩ := HF.out.at_ hin
      have fv := (HF.out.fv i hin)
      have ea := fv.at_
      have hws := Lib.hid fv.ws
      have hnn := fv.ws.nc
      have hcc : (rr.getD i FR.zero).c ≤ 9223372036854775807 := fv.ws.cm
      have hl := fv.ws.len
      have hwf := wf_i fv.wf
      obtain ⟨st1, st2⟩ := atL_step (a := a) (show i < gs.length by omega)
      unfold inF at st1 st2
      have S1 := Lib.hid st1
      have S2 := Lib.hid st2
      clear HFq fv st1 st2
      rw [← ea] at hwf
      generalize rr.getD i FR.zero = f at *
      generalize gs.getD i Frg.zero = g at *
      obtain ⟨fa, fA, fn, fc⟩ := f
      simp only at ea hws hnn hcc hl hwf y0 y1
      subst ea
      by_cases h0 : 0 ≤ g.at_
      · have hd2 : decide (0 ≤ g.at_) = true := decide_eq_true h0
        by_cases h1 : g.at_ ≤ a
        · have hd3 : decide (g.at_ ≤ a) = true := decide_eq_true h1
          obtain ⟨k, hk⟩ : ∃ k : Nat, a - g.at_ = (k : Int) := ⟨(a - g.at_).toNat, by omega⟩
          by_cases h2 : k < fn
          · have hd4 : decide ((k : Int) < (fn : Int)) = true := decide_eq_true (by omega)
            have hat2 := Lib.hid ((S1.out (by omega)).symm.trans hat.out)
            obtain ⟨b2, o2, hfA, _⟩ := hws.out.some (by omega)
            subst hfA
            have hpart := hws.out.part (lo := k) (m := fn - k) (o' := o2 + k) (by omega) (.inr rfl)
            rw [List.take_of_length_le (by rw [List.length_drop]; omega)] at hpart
            have HPt : Hid (Zs .u64 w1 (some ⟨b2, o2 + k, none⟩) (fn - k) (fc - k) (atL gs a)) := Lib.hid (by rw [← hat2.out, hk]; exact hpart)
            have hck : ¬ fc = k := by omega
            have hk2 : (k : Int) ≤ (fn : Int) := by omega
            clear S1 S2 hws HF hat hat2 hpart
            go_wp2_with fail
            go_quiet (fail)
            go_wp2_with fail
            go_region
            all_goals
              go_wp2
              go_ret
              exact ⟨_, _, _, rfl, HPt.out.drewN _, HB1.out.trans ((bel_drewN w1 _).mono HB1.out.size)⟩
          · have hd4 : decide ((k : Int) < (fn : Int)) = false := decide_eq_false (by omega)
            have hat2 := Lib.hid ((S2.out (by omega)).symm.trans hat.out)
            clear S1 S2 hws HF hat
            go_wp2_with fail
            go_quiet (fail)
            go_wp2_with fail
            exact ⟨⟨i + 1, _, by omega, rfl, hat2, rfl⟩, by simp [intOf]; omega⟩
        · have hd3 : decide (g.at_ ≤ a) = false := decide_eq_false h1
          have hat2 := Lib.hid ((S2.out (by omega)).symm.trans hat.out)
          clear S1 S2 hws HF hat
          go_wp2_with fail
          go_quiet (fail)
          go_wp2_with fail
          exact ⟨⟨i + 1, _, by omega, rfl, hat2, rfl⟩, by simp [intOf]; omega⟩
      · have hd2 : decide (0 ≤ g.at_) = false := decide_eq_false h0
        have hat2 := Lib.hid ((S2.out (by omega)).symm.trans hat.out)
        clear S1 S2 hws HF hat
        go_wp2_with fail
        go_quiet (fail)
        go_wp2_with fail
        exact ⟨⟨i + 1, _, by omega, rfl, hat2, rfl⟩, by simp [intOf]; omega⟩
    · have e : i = M := by omega
      have hd1 : decide ((i : Int) < (M : Int)) = false := decide_eq_false (by omega)
      have hat2 := hat.out
      rw [List.drop_of_length_le (by omega)] at hat2
      have HZ : Hid (atL gs a = []) := Lib.hid hat2.symm
      clear hat hat2 HF
      go_wp2
      go_ret
      exact ⟨none, 0, 0, rfl, by rw [HZ.out]; exact Zs.nil _ _, HB1.out.trans ((bel_drewN w1 _).mono HB1.out.size)⟩
end Go.Proofs.YtejmmjedognaaaaGreat

namespace Go.Proofs.YtejmmjedognaaaaGreat
open Go.RowKit

/-- A word of 64 bits. -/
def Wd (w : Int) : Prop := 0 ≤ w ∧ w ≤ 18446744073709551615
/-- An int of 64 bits. -/
def In (x : Int) : Prop := -9223372036854775808 ≤ x ∧ x ≤ 9223372036854775807
/-- Load of a word. -/
def ldZ (w : Int) : Int := if w % 8 = 0 then (if w ≤ 9223372036854775807 then w else w - 18446744073709551616) / 8 else w / 8
/-- Which loads a tag permits. -/
def pmB (t l : Int) : Bool :=
  if t = 0 then decide (-1152921504606846976 ≤ l) && decide (l ≤ 1152921504606846975)
  else if t = 1 then decide (0 ≤ l) && decide (l ≤ 255)
  else if t = 2 then decide (0 ≤ l) && decide (l ≤ 63)
  else if t = 3 then decide (l = 0)
  else decide (4 ≤ t) && decide (t ≤ 7) && (decide (0 ≤ l) && decide (l ≤ 1152921504606846975))
def mkZ (t l : Int) : Int := l * 8 % 18446744073709551616 + t
def hdB (k s : Int) : Bool := (decide (0 ≤ k) && decide (k ≤ 5)) && (decide (0 ≤ s) && decide (s ≤ 1048576))
def hdZ (k s : Int) : Int := (s * 8 + k) * 8 + 6
def ptB (w : Int) : Bool := decide (w % 8 = 6) && hdB (w / 8 % 8) (w / 64)
def plB (w : Int) : Bool := decide (w % 8 ≤ 5) && pmB (w % 8) (ldZ w)

set_option maxRecDepth 100000 in
theorem pm_in {t l : Int} (h : pmB t l = true) : (0 ≤ t ∧ t ≤ 7) ∧ -1152921504606846976 ≤ l ∧ l ≤ 1152921504606846975 := by
  unfold pmB at h
  repeat' split at h
  all_goals simp only [Bool.and_eq_true, decide_eq_true_eq] at h
  all_goals omega
set_option maxRecDepth 100000 in
theorem ld_mk {t l : Int} (h : pmB t l = true) : ldZ (mkZ t l) = l := by
  have h0 := pm_in h
  unfold ldZ mkZ
  by_cases e : t = 0
  · rw [if_pos (by omega)]
    split <;> omega
  · have : 0 ≤ l := by
      unfold pmB at h
      rw [if_neg e] at h
      repeat' split at h
      all_goals simp only [Bool.and_eq_true, decide_eq_true_eq] at h
      all_goals omega
    rw [if_neg (by omega)]
    omega
set_option maxRecDepth 100000 in
theorem tag_mk {t l : Int} (h : pmB t l = true) : mkZ t l % 8 = t := by
  have h0 := pm_in h
  unfold mkZ
  omega
set_option maxRecDepth 100000 in
theorem mk_wd {t l : Int} (h : pmB t l = true) : Wd (mkZ t l) := by
  have h0 := pm_in h
  unfold mkZ Wd
  omega
set_option maxRecDepth 100000 in
theorem hd_wd {k s : Int} (h : hdB k s = true) : Wd (hdZ k s) := by
  simp only [hdB, Bool.and_eq_true, decide_eq_true_eq] at h
  unfold hdZ Wd
  omega
set_option maxRecDepth 100000 in
theorem pl_mk {t l : Int} (h : pmB t l = true) : plB (mkZ t l) = decide (t ≤ 5) := by
  unfold plB
  rw [tag_mk h, ld_mk h, h, Bool.and_true]
set_option maxRecDepth 100000 in
theorem pt_hd {k s : Int} (h : hdB k s = true) : ptB (hdZ k s) = true ∧ hdZ k s / 8 % 8 = k ∧ hdZ k s / 64 = s ∧ hdZ k s % 8 = 6 := by
  have h0 := h
  simp only [hdB, Bool.and_eq_true, decide_eq_true_eq] at h
  have e1 : hdZ k s / 8 % 8 = k := by unfold hdZ; omega
  have e2 : hdZ k s / 64 = s := by unfold hdZ; omega
  have e3 : hdZ k s % 8 = 6 := by unfold hdZ; omega
  refine ⟨?_, e1, e2, e3⟩
  unfold ptB
  rw [e1, e2, e3, h0]
  rfl
set_option maxRecDepth 100000 in
theorem mk_back {w : Int} (h : Wd w) : mkZ (w % 8) (ldZ w) = w := by
  unfold Wd at h
  unfold mkZ ldZ
  split
  · split <;> omega
  · omega

set_option maxRecDepth 100000 in
set_option maxHeartbeats 400000 in
theorem within_any (a b c : Int) (W : World) : Calls Tryz.prog 113 #[.int .i64 a, .int .i64 b, .int .i64 c] W fun e W' => e = .returned (.bool (decide (b ≤ a) && decide (a ≤ c))) ∧ W = W' := by
  go_enter Tryz.func113, Tryz.ntmps113
  cases h1 : decide (b ≤ a) <;> cases h2 : decide (a ≤ c)
  all_goals go_wp2
  all_goals go_ret
  all_goals exact ⟨rfl, rfl⟩

set_option maxRecDepth 100000 in
set_option maxHeartbeats 400000 in
theorem isHead_any (k s : Int) (W : World) : Calls Tryz.prog 135 #[.int .i64 k, .int .i64 s] W fun e W' => e = .returned (.bool (hdB k s)) ∧ W = W' := by
  unfold hdB
  generalize hA : (decide (0 ≤ k) && decide (k ≤ 5)) = A
  generalize hB : (decide (0 ≤ s) && decide (s ≤ 1048576)) = B
  have hA := Lib.hid hA
  have hB := Lib.hid hB
  go_enter Tryz.func135, Tryz.ntmps135
  cases A <;> cases B
  all_goals go_wp2_with (go_at_call 113; refine (within_any _ _ _ _).mono ?_; rintro e w' ⟨rfl, rfl⟩; try rw [hA.out]; try rw [hB.out])
  all_goals go_ret
  all_goals exact ⟨rfl, rfl⟩

set_option maxRecDepth 100000 in
set_option maxHeartbeats 400000 in
theorem tag_any (w : Int) (h : Wd w) (W : World) : Calls Tryz.prog 52 #[.int .u64 w] W fun e W' => e = .returned (.int .i64 (w % 8)) ∧ W = W' := by
  unfold Wd at h
  have H := Lib.hid h
  clear h
  go_enter Tryz.func52, Tryz.ntmps52
  go_wp2
  go_ret
  have h := H.out
  rw [show wrap64 (IntKind.u64.wrap (w * 2305843009213693952) / 2305843009213693952) = w % 8 by rw [IntKind.wrap_u64]; simp only [wrap64]; omega]
  exact ⟨rfl, rfl⟩

set_option maxRecDepth 100000 in
theorem or_tag {l t : Int} (hl : 0 ≤ l) (hl2 : l * 8 ≤ 18446744073709551615) (ht : 0 ≤ t) (ht2 : t ≤ 7) : bits .or .u64 (l * 8) t = l * 8 + t := by
  obtain ⟨y, rfl⟩ : ∃ y : Nat, l = (y : Int) := ⟨l.toNat, by omega⟩
  obtain ⟨d, rfl⟩ : ∃ d : Nat, t = (d : Int) := ⟨t.toNat, by omega⟩
  have e : (y : Int) * 8 = ((y * 8 : Nat) : Int) := by simp
  have h2 : (y * 8 ||| d) = y * 8 + d := by
    have h3 := Nat.two_pow_add_eq_or_of_lt (i := 3) (b := d) (by omega) y
    rw [Nat.mul_comm y 8]
    exact h3.symm
  rw [e, u64_or _ _ (by omega) (by omega) (by omega) (by omega), Int.toNat_natCast, Int.toNat_natCast, h2]
  omega

set_option maxRecDepth 100000 in
set_option maxHeartbeats 400000 in
theorem joined_any (t l : Int) (h : 0 ≤ t ∧ t ≤ 7) (W : World) : Calls Tryz.prog 136 #[.int .i64 t, .int .i64 l] W fun e W' => e = .returned (.int .u64 (mkZ t l)) ∧ W = W' := by
  have H := Lib.hid h
  clear h
  go_enter Tryz.func136, Tryz.ntmps136
  go_wp2
  go_ret
  have h := H.out
  have e1 : IntKind.u64.wrap (IntKind.u64.wrap l * 8) = l % 2305843009213693952 * 8 := by rw [IntKind.wrap_u64, IntKind.wrap_u64]; omega
  have e2 : IntKind.u64.wrap t = t := by rw [IntKind.wrap_u64]; omega
  rw [e1, e2, or_tag (by omega) (by omega) h.1 h.2, show l % 2305843009213693952 * 8 + t = mkZ t l by unfold mkZ; omega]
  exact ⟨rfl, rfl⟩

set_option maxRecDepth 100000 in
set_option maxHeartbeats 400000 in
theorem load_any (w : Int) (h : Wd w) (W : World) : Calls Tryz.prog 54 #[.int .u64 w] W fun e W' => e = .returned (.int .i64 (ldZ w)) ∧ W = W' := by
  have H := Lib.hid h
  by_cases e : w % 8 = 0
  · have h0 : (w % 8 == 0) = true := by rw [beq_iff_eq]; exact e
    have E := Lib.hid e
    clear e h
    go_enter Tryz.func54, Tryz.ntmps54
    go_wp2_with (go_at_call 52; refine (tag_any _ H.out _).mono ?_; rintro e w' ⟨rfl, rfl⟩)
    go_ret
    have h := H.out
    have e := E.out
    unfold Wd at h
    rw [show wrap64 w / 8 = ldZ w by unfold ldZ; rw [if_pos e]; simp only [wrap64]; split <;> omega]
    exact ⟨rfl, rfl⟩
  · have h0 : (w % 8 == 0) = false := by rw [beq_eq_false_iff_ne]; exact e
    have E := Lib.hid e
    clear e h
    go_enter Tryz.func54, Tryz.ntmps54
    go_wp2_with (go_at_call 52; refine (tag_any _ H.out _).mono ?_; rintro e w' ⟨rfl, rfl⟩)
    go_ret
    have h := H.out
    have e := E.out
    unfold Wd at h
    rw [show wrap64 (w / 8) = ldZ w by unfold ldZ; rw [if_neg e]; simp only [wrap64]; omega]
    exact ⟨rfl, rfl⟩

set_option maxRecDepth 100000 in
set_option maxHeartbeats 1000000 in
theorem permits_any (t l : Int) (W : World) : Calls Tryz.prog 81 #[.int .i64 t, .int .i64 l] W fun e W' => e = .returned (.bool (pmB t l)) ∧ W = W' := by
  by_cases e0 : t = 0
  · subst e0
    go_enter Tryz.func81, Tryz.ntmps81
    go_wp2_with (go_at_call 113; refine (within_any _ _ _ _).mono ?_; rintro e w' ⟨rfl, rfl⟩)
    go_ret
    exact ⟨rfl, rfl⟩
  by_cases e1 : t = 1
  · subst e1
    go_enter Tryz.func81, Tryz.ntmps81
    go_wp2_with (go_at_call 113; refine (within_any _ _ _ _).mono ?_; rintro e w' ⟨rfl, rfl⟩)
    go_ret
    exact ⟨rfl, rfl⟩
  by_cases e2 : t = 2
  · subst e2
    go_enter Tryz.func81, Tryz.ntmps81
    go_wp2_with (go_at_call 113; refine (within_any _ _ _ _).mono ?_; rintro e w' ⟨rfl, rfl⟩)
    go_ret
    exact ⟨rfl, rfl⟩
  by_cases e3 : t = 3
  · subst e3
    go_enter Tryz.func81, Tryz.ntmps81
    go_wp2
    go_ret
    exact ⟨rfl, rfl⟩
  by_cases e4 : 4 ≤ t ∧ t ≤ 7
  · obtain e | e | e | e : t = 4 ∨ t = 5 ∨ t = 6 ∨ t = 7 := by omega
    all_goals subst e
    all_goals clear e0 e1 e2 e3 e4
    all_goals go_enter Tryz.func81, Tryz.ntmps81
    all_goals go_wp2_with (go_at_call 113; refine (within_any _ _ _ _).mono ?_; rintro e w' ⟨rfl, rfl⟩)
    all_goals go_ret
    all_goals exact ⟨rfl, rfl⟩
  have n0 : (t == 0) = false := by rw [beq_eq_false_iff_ne]; exact e0
  have n1 : (t == 1) = false := by rw [beq_eq_false_iff_ne]; exact e1
  have n2 : (t == 2) = false := by rw [beq_eq_false_iff_ne]; exact e2
  have n3 : (t == 3) = false := by rw [beq_eq_false_iff_ne]; exact e3
  have n4 : (t == 4) = false := by rw [beq_eq_false_iff_ne]; omega
  have n5 : (t == 5) = false := by rw [beq_eq_false_iff_ne]; omega
  have n6 : (t == 6) = false := by rw [beq_eq_false_iff_ne]; omega
  have n7 : (t == 7) = false := by rw [beq_eq_false_iff_ne]; omega
  have fin : Hid (pmB t l = false) := Lib.hid (by
    unfold pmB
    rw [if_neg e0, if_neg e1, if_neg e2, if_neg e3]
    by_cases h4 : 4 ≤ t
    · have : ¬ t ≤ 7 := fun h => e4 ⟨h4, h⟩
      simp [this]
    · simp [h4])
  clear e0 e1 e2 e3 e4
  go_enter Tryz.func81, Tryz.ntmps81
  go_wp2
  go_ret
  rw [fin.out]
  exact ⟨rfl, rfl⟩

set_option maxRecDepth 100000 in
set_option maxHeartbeats 400000 in
theorem make_any (t l : Int) (W : World) : Calls Tryz.prog 98 #[.int .i64 t, .int .i64 l] W fun e W' => e = .returned (.tuple #[.int .u64 (if pmB t l then mkZ t l else 0), .bool (pmB t l)]) ∧ W = W' := by
  cases h : pmB t l
  · have H := Lib.hid h
    clear h
    go_enter Tryz.func98, Tryz.ntmps98
    go_wp2_with (go_at_call 81; refine (permits_any _ _ _).mono ?_; rintro e w' ⟨rfl, rfl⟩; rw [H.out])
    go_ret2
    exact ⟨rfl, rfl⟩
  · have H := Lib.hid h
    have H2 := Lib.hid (pm_in h).1
    clear h
    go_enter Tryz.func98, Tryz.ntmps98
    go_wp2_with (first | (go_at_call 81; refine (permits_any _ _ _).mono ?_; rintro e w' ⟨rfl, rfl⟩; rw [H.out]) | (go_at_call 136; refine (joined_any _ _ H2.out _).mono ?_; rintro e w' ⟨rfl, rfl⟩))
    go_ret2
    exact ⟨rfl, rfl⟩

set_option maxRecDepth 100000 in
theorem i64_or_nat (a b : Nat) (ha : a < 4611686018427387904) (hb : b < 4611686018427387904) : bits .or .i64 (a : Int) (b : Int) = ((a ||| b : Nat) : Int) := by
  have hx : a ||| b < 2 ^ 62 := Nat.or_lt_two_pow (by omega) (by omega)
  show IntKind.i64.wrap ((BitVec.ofInt 64 (a : Int) ||| BitVec.ofInt 64 (b : Int)).toNat : Int) = _
  rw [BitVec.toNat_or, ofInt_u64 a (by omega), ofInt_u64 b (by omega), IntWalk.i64_in _ (by omega)]
set_option maxRecDepth 100000 in
theorem or_kind {k s : Int} (h : hdB k s = true) : bits .or .i64 (wrap64 (s * 8)) k = s * 8 + k := by
  simp only [hdB, Bool.and_eq_true, decide_eq_true_eq] at h
  rw [show wrap64 (s * 8) = s * 8 by simp only [wrap64]; omega]
  obtain ⟨y, rfl⟩ : ∃ y : Nat, s = (y : Int) := ⟨s.toNat, by omega⟩
  obtain ⟨d, rfl⟩ : ∃ d : Nat, k = (d : Int) := ⟨k.toNat, by omega⟩
  have e : (y : Int) * 8 = ((y * 8 : Nat) : Int) := by simp
  have h2 : (y * 8 ||| d) = y * 8 + d := by
    have h3 := Nat.two_pow_add_eq_or_of_lt (i := 3) (b := d) (by omega) y
    rw [Nat.mul_comm y 8]
    exact h3.symm
  rw [e, i64_or_nat _ _ (by omega) (by omega), h2]
  omega
set_option maxRecDepth 100000 in
theorem mk_hd {k s : Int} (h : hdB k s = true) : mkZ 6 (s * 8 + k) = hdZ k s := by
  simp only [hdB, Bool.and_eq_true, decide_eq_true_eq] at h
  unfold mkZ hdZ
  omega

set_option maxRecDepth 100000 in
theorem pt_kind {w : Int} (h : Wd w) (e : w % 8 = 6) : wrap64 (ldZ w - wrap64 (ldZ w / 8 * 8)) = w / 8 % 8 := by
  have h0 : 0 ≤ w ∧ w ≤ 18446744073709551615 := h
  clear h
  unfold ldZ
  rw [if_neg (by omega)]
  simp only [wrap64]
  omega
set_option maxRecDepth 100000 in
theorem pt_size {w : Int} (e : w % 8 = 6) : ldZ w / 8 = w / 64 := by
  unfold ldZ
  rw [if_neg (by omega)]
  omega
set_option maxRecDepth 100000 in
set_option maxHeartbeats 1000000 in
theorem parts_any (w : Int) (h : Wd w) (W : World) : Calls Tryz.prog 97 #[.int .u64 w] W fun e W' => e = .returned (.tuple #[.int .i64 (if ptB w then w / 8 % 8 else 0), .int .i64 (if ptB w then w / 64 else 0), .bool (ptB w)]) ∧ Below W.heap.size W W' := by
  have H := Lib.hid h
  by_cases e : w % 8 = 6
  · have n1 : (w % 8 != 6) = false := by rw [e]; rfl
    have f1 := Lib.hid (pt_kind h e)
    have f2 := Lib.hid (pt_size e)
    have f3 : ptB w = hdB (w / 8 % 8) (w / 64) := by unfold ptB; rw [e]; rfl
    cases g : hdB (w / 8 % 8) (w / 64)
    · have G := Lib.hid g
      rw [g] at f3
      clear g h e
      rw [f3]
      clear f3
      go_enter Tryz.func97, Tryz.ntmps97
      go_wp2_with (first | (go_at_call 52; refine (tag_any _ H.out _).mono ?_; rintro e w' ⟨rfl, rfl⟩) | (go_at_call 54; refine (load_any _ H.out _).mono ?_; rintro e w' ⟨rfl, rfl⟩) | (go_at_call 135; refine (isHead_any _ _ _).mono ?_; rintro e w' ⟨rfl, rfl⟩; rw [f1.out, f2.out, G.out]))
      go_ret3
      exact ⟨rfl, by first | exact Below.refl _ _ | exact (Below.refl _ _).drew⟩
    · have G := Lib.hid g
      rw [g] at f3
      clear g h e
      rw [f3]
      clear f3
      go_enter Tryz.func97, Tryz.ntmps97
      go_wp2_with (first | (go_at_call 52; refine (tag_any _ H.out _).mono ?_; rintro e w' ⟨rfl, rfl⟩) | (go_at_call 54; refine (load_any _ H.out _).mono ?_; rintro e w' ⟨rfl, rfl⟩) | (go_at_call 135; refine (isHead_any _ _ _).mono ?_; rintro e w' ⟨rfl, rfl⟩; rw [f1.out, f2.out, G.out]))
      go_ret3
      exact ⟨rfl, by first | exact Below.refl _ _ | exact (Below.refl _ _).drew⟩
  · have n1 : (w % 8 != 6) = true := by rw [bne_iff_ne]; exact e
    have f3 : ptB w = false := by unfold ptB; simp [e]
    clear e h
    rw [f3]
    clear f3
    go_enter Tryz.func97, Tryz.ntmps97
    go_wp2_with (first | (go_at_call 52; refine (tag_any _ H.out _).mono ?_; rintro e w' ⟨rfl, rfl⟩) | (go_at_call 54; refine (load_any _ H.out _).mono ?_; rintro e w' ⟨rfl, rfl⟩))
    go_ret3
    exact ⟨rfl, by first | exact Below.refl _ _ | exact (Below.refl _ _).drew⟩

set_option maxRecDepth 100000 in
set_option maxHeartbeats 1000000 in
theorem plain_any (w : Int) (h : Wd w) (W : World) : Calls Tryz.prog 51 #[.int .u64 w] W fun e W' => e = .returned (.bool (plB w)) ∧ Below W.heap.size W W' := by
  have H := Lib.hid h
  cases g : decide (w % 8 ≤ 5)
  · have f3 : Hid (plB w = false) := Lib.hid (by unfold plB; rw [g]; rfl)
    clear h
    go_enter Tryz.func51, Tryz.ntmps51
    go_wp2_with (first | (go_at_call 52; refine (tag_any _ H.out _).mono ?_; rintro e w' ⟨rfl, rfl⟩) | (go_at_call 54; refine (load_any _ H.out _).mono ?_; rintro e w' ⟨rfl, rfl⟩) | (go_at_call 81; refine (permits_any _ _ _).mono ?_; rintro e w' ⟨rfl, rfl⟩))
    go_ret
    rw [f3.out]
    exact ⟨rfl, by first | exact Below.refl _ _ | exact (Below.refl _ _).drew⟩
  · have f3 : Hid (plB w = pmB (w % 8) (ldZ w)) := Lib.hid (by unfold plB; rw [g]; rfl)
    clear h
    go_enter Tryz.func51, Tryz.ntmps51
    go_wp2_with (first | (go_at_call 52; refine (tag_any _ H.out _).mono ?_; rintro e w' ⟨rfl, rfl⟩) | (go_at_call 54; refine (load_any _ H.out _).mono ?_; rintro e w' ⟨rfl, rfl⟩) | (go_at_call 81; refine (permits_any _ _ _).mono ?_; rintro e w' ⟨rfl, rfl⟩))
    go_ret
    rw [f3.out]
    exact ⟨rfl, by first | exact Below.refl _ _ | exact (Below.refl _ _).drew⟩
end Go.Proofs.YtejmmjedognaaaaGreat
