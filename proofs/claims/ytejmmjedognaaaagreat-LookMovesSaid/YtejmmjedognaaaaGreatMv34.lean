/-
  PACKAGE look: Read.
  PACKAGE look: readable.
  PACKAGE look: regions, where the loop's body writes some blocks.
  slices.SortFunc OVER REGIONS BY THEIR ADDRESSES, AT MOST EIGHT: by the shelf's insertion sort (plain text).
-/
import Derived.Test.YtejmmjedognaaaaGreatMv33
import Derived.Test.YtejmmjedognaaaaGreatMv22
import Derived.Shelf.SlSortCmp.InsertionK
import Derived.Shelf.SlGeneric
import Derived.Ground.SlsfProg
import Derived.Sort.LotA
namespace Go.Proofs.YtejmmjedognaaaaGreat
open Go.RowKit
open St

section
variable (gs : List Frg) (S : List Slt) (mv : Value) (SA : Option Addr) (sm sc : Nat) (kv : Value)
set_option maxRecDepth 100000 in
theorem term_any (t : Tm) : TermC gs S mv SA sm sc kv t := by
  induction t using Tm.ind with
  | h k n g l u s ks ih => exact term_c gs S mv SA sm sc kv _ ih
end
/-- What Read answers. -/
def ReadP (gs : List Frg) (S : List Slt) (x : Int) (w : World) (e : Ending) (w' : World) : Prop :=
  ((∃ t R, Rd gs S x t ∧ t.wt ≤ 300 ∧ e = .returned (.tuple #[.agg #[.int .i64 R.k, .int .i64 R.n, .bool R.g, .slice R.A R.ln R.lc, .int .u64 R.u, .string R.s, .slice R.B R.m R.d], .bool true]) ∧ TVS (fun b => w.heap.size ≤ b) w' R t ∧ Sfe (fun b => w.heap.size ≤ b) w' R) ∨
    ((∀ t, Rd gs S x t → 300 < t.wt) ∧ e = .returned (.tuple #[.agg #[.int .i64 zeroR.k, .int .i64 zeroR.n, .bool zeroR.g, .slice zeroR.A zeroR.ln zeroR.lc, .int .u64 zeroR.u, .string zeroR.s, .slice zeroR.B zeroR.m zeroR.d], .bool false]))) ∧ Below w.heap.size w w'

set_option maxRecDepth 100000 in
set_option maxRecDepth 100000 in
set_option maxHeartbeats 8000000 in
theorem read_any {w : World} {r : DR} {d : Dmp} (h : DV w r d) (hm : r.fm ≤ 1000) (hg : ∀ f ∈ d.y :: d.o :: d.fs, f.ws.length ≤ 1000) {SA : Option Addr} {sm sc : Nat} {S : List Slt} (hS : SLs w SA sm sc S) (hsm : sm ≤ 1000) (x : Int) (hx : Wd x) :
    Calls Tryz.prog 10 #[.agg #[.int .i64 r.y.at_, .slice r.y.A r.y.n r.y.c, .int .i64 r.o.at_, .slice r.o.A r.o.n r.o.c, .int .i64 r.size, .int .i64 r.mark, .slice r.F r.fm r.fc, .slice r.R r.rm r.rc, .slice r.H r.hm r.hc], .slice SA sm sc, .int .u64 x] w (ReadP (d.y :: d.o :: d.fs) S x w) := by
  obtain ⟨wa, hwa⟩ : ∃ wa, wa = w.alloc (.cells #[.int .i64 r.y.at_, .slice r.y.A r.y.n r.y.c, .int .i64 r.o.at_, .slice r.o.A r.o.n r.o.c, .int .i64 r.size, .int .i64 r.mark, .slice r.F r.fm r.fc, .slice r.R r.rm r.rc, .slice r.H r.hm r.hc] 28) := ⟨_, rfl⟩
  have hba : Below w.heap.size w wa := by rw [hwa]; exact (Below.refl _ w).alloc (Nat.le_refl _) _
  have xa : Bx wa w.heap.size r := ⟨by rw [hwa]; exact heap_alloc_new w _⟩
  have hsa : wa.heap.size = w.heap.size + 1 := by rw [hwa]; simp
  obtain ⟨wb, hwb⟩ : ∃ wb, wb = wa.alloc (.cells #[.int .i64 zeroR.k, .int .i64 zeroR.n, .bool zeroR.g, .slice zeroR.A zeroR.ln zeroR.lc, .int .u64 zeroR.u, .string zeroR.s, .slice zeroR.B zeroR.m zeroR.d] 40) := ⟨_, rfl⟩
  have hbb : Below wa.heap.size wa wb := by rw [hwb]; exact (Below.refl _ wa).alloc (Nat.le_refl _) _
  have xb : Box7 wb (w.heap.size + 1) zeroR := by rw [hwb, ← hsa]; exact Box7.new wa zeroR
  have hsb : wb.heap.size = w.heap.size + 2 := by rw [hwb]; simp; omega
  have xa2 := xa.below hbb xa.lt
  have hbw := hba.trans (hbb.mono hba.size)
  obtain ⟨mv, hmv⟩ : ∃ mv : Value, mv = .iface 63 (.agg #[.int .i64 r.y.at_, .slice r.y.A r.y.n r.y.c, .int .i64 r.o.at_, .slice r.o.A r.o.n r.o.c, .int .i64 r.size, .int .i64 r.mark, .slice r.F r.fm r.fc, .slice r.R r.rm r.rc, .slice r.H r.hm r.hc]) := ⟨_, rfl⟩
  obtain ⟨wc, hwc⟩ : ∃ wc, wc = wb.alloc (.cells #[mv, .slice SA sm sc, .map none] 68) := ⟨_, rfl⟩
  have hbc : Below wb.heap.size wb wc := by rw [hwc]; exact (Below.refl _ wb).alloc (Nat.le_refl _) _
  have rd : Rdr wc (w.heap.size + 2) mv SA sm sc (.map none) := by rw [hwc, ← hsb]; exact Rdr.new _ _ _ _ _ _
  have hbw3 := hbw.trans (hbc.mono hbw.size)
  have hM : Mem (d.y :: d.o :: d.fs) S mv SA sm sc wc := Mem.below ⟨.whole r d h hm rfl hmv, hS, hg, hsm⟩ hbw3
  have HW0 := (rdWeight_any (d.y :: d.o :: d.fs) S mv SA sm sc (.map none) 300 (Nat.le_refl _) wc 0 x hx (by omega) (.inl rfl) hM)
  rw [show ((300 : Nat) : Int) = 300 from rfl] at HW0
  have HW := Lib.hid HW0
  clear HW0
  have xb3 := Lib.hid (xb.below hbc)
  have c0 := xa2.c0
  have c1 := xa2.c1
  have c2 := xa2.c2
  have c3 := xa2.c3
  have c4 := xa2.c4
  have c5 := xa2.c5
  have c6 := xa2.c6
  have c7 := xa2.c7
  have c8 := xa2.c8
  have HB := Lib.hid hbw3
  have HM := Lib.hid hM
  have HRd := Lib.hid rd
  have hsz3 : wc.heap.size = w.heap.size + 3 := by rw [hwc]; simp; omega
  have r0 := rd.c0
  have r1 := rd.c1
  have r2 := rd.c2
  clear h hM hS hg xa xa2 hba hbb hbc hbw hbw3 rd xb
  generalize d.y :: d.o :: d.fs = gs at *
  simp only at hwb
  go_enter Tryz.func10, Tryz.ntmps10
  go_upto_region 1 with fail
  rw [← hwa, ← hwb]
  clear hwa hwb
  generalize hD : w.heap.size = D at *
  go_upto_region 2 with fail
  simp only [← hmv]
  rw [← hwc]
  clear hwc hmv c0 c1 c2 c3 c4 c5 c6 c7 c8
  clear r0 r1 r2
  have e0 := HRd.out.c0
  have e1 := HRd.out.c1
  have e2 := HRd.out.c2
  go_wp2_with (first
    | (go_at_call 26; (with_reducible refine HW.out.mono ?_); rintro e w3 ⟨v, n', rfl, hv, hv9, hK3, -, -, hC3⟩; have hb3 : Hid (Below wc.heap.size wc w3) := Lib.hid (hC3.chg.toBelow (fun k h => by cases h) (Nat.le_refl _)); have bx3 := xb3.out.below hb3.out; have f0 := bx3.frozen 0; have f1 := bx3.frozen 1; have f2 := bx3.frozen 2; have f3 := bx3.frozen 3; have f4 := bx3.frozen 4; have f5 := bx3.frozen 5; have f6 := bx3.frozen 6; have p0 := bx3.at.c0; have p1 := bx3.at.c1; have p2 := bx3.at.c2; have p3 := bx3.at.c3; have p4 := bx3.at.c4; have p5 := bx3.at.c5; have p6 := bx3.at.c6; have rd3 := HRd.out.below hb3.out HRd.out.lt; have k0 := rd3.c0; have k1 := rd3.c1; have k2 := rd3.c2; replace bx3 := Lib.hid bx3; have HM3 := Lib.hid (HM.out.ch hC3); clear rd3 hC3 hK3 e0 e1 e2; (rcases hv with ⟨hv0, hno⟩ | ⟨hv1, hv2, t, hrt, htw⟩); (have hd : ((v : Int) == 0) = true := by rw [hv0]; rfl); rotate_left 1; (have hd : ((v : Int) == 0) = false := beq_eq_false_iff_ne.2 (by omega)); (have HTm := Lib.hid (term_any gs S mv SA sm sc (.map none) t w3 x hx hrt HM3.out)); rotate_left 1)
    | (go_at_call 27; (with_reducible refine HTm.out.mono ?_); rintro e w4 ⟨R, rfl, hT, hF, hb4⟩; have bx4 := bx3.out.below hb4; (clear f0 f1 f2 f3 f4 f5 f6 p0 p1 p2 p3 p4 p5 p6); have f0 := bx4.frozen 0; have f1 := bx4.frozen 1; have f2 := bx4.frozen 2; have f3 := bx4.frozen 3; have f4 := bx4.frozen 4; have f5 := bx4.frozen 5; have f6 := bx4.frozen 6; have p0 := bx4.at.c0; have p1 := bx4.at.c1; have p2 := bx4.at.c2; have p3 := bx4.at.c3; have p4 := bx4.at.c4; have p5 := bx4.at.c5; have p6 := bx4.at.c6; replace bx4 := Lib.hid bx4; replace hb4 := Lib.hid hb4; replace hT := Lib.hid hT; replace hF := Lib.hid hF))
  · have C := (bx3.out.put zeroR).at
    have hB5 := (HB.out.trans (hb3.out.mono (show D ≤ wc.heap.size by omega))).put7 (g := D + 1) (by omega) zeroR
    clear f0 f1 f2 f3 f4 f5 f6 p0 p1 p2 p3 p4 p5 p6
    have y0 := C.c0; have y1 := C.c1; have y2 := C.c2; have y3 := C.c3; have y4 := C.c4; have y5 := C.c5; have y6 := C.c6
    clear C
    change bodyPost _ _ _ _ _ (put7 w3 (D + 1) zeroR)
    generalize put7 w3 (D + 1) zeroR = W5 at *
    exact bodyPost_ret (v := .tuple #[.agg #[.int .i64 0, .int .i64 0, .bool false, .slice none 0 0, .int .u64 0, .string ⟨#[]⟩, .slice none 0 0], .bool false]) (by simp [results, Tryz.results10, go_sem, y0, y1, y2, y3, y4, y5, y6]) rfl ⟨.inr ⟨hno, rfl⟩, by rw [hD]; exact hB5⟩
  · have C := (bx4.out.put R).at
    have h3 := hb3.out.size
    have hB5 := ((HB.out.trans (hb3.out.mono (show D ≤ wc.heap.size by omega))).trans (hb4.out.mono (show D ≤ w3.heap.size by omega))).put7 (g := D + 1) (by omega) R
    have hkp := keeps_p7 (S := fun b => w3.heap.size ≤ b) (w := w4) (g := D + 1) (by omega) R
    have hT8 := (hT.out.keep hkp).mono (S' := fun b => D ≤ b) (fun b h => by omega)
    have hS8 := (hF.out.keep hkp).mono (S' := fun b => D ≤ b) (fun b _ h => by omega)
    clear f0 f1 f2 f3 f4 f5 f6 p0 p1 p2 p3 p4 p5 p6 hkp hT hF
    have y0 := C.c0; have y1 := C.c1; have y2 := C.c2; have y3 := C.c3; have y4 := C.c4; have y5 := C.c5; have y6 := C.c6
    clear C
    change bodyPost _ _ _ _ _ (put7 w4 (D + 1) R)
    generalize put7 w4 (D + 1) R = W5 at *
    exact bodyPost_ret (v := .tuple #[.agg #[.int .i64 R.k, .int .i64 R.n, .bool R.g, .slice R.A R.ln R.lc, .int .u64 R.u, .string R.s, .slice R.B R.m R.d], .bool true]) (by simp [results, Tryz.results10, go_sem, y0, y1, y2, y3, y4, y5, y6]) rfl ⟨.inl ⟨t, R, hrt, by omega, rfl, by rw [hD]; exact hT8, by rw [hD]; exact hS8⟩, by rw [hD]; exact hB5⟩
end Go.Proofs.YtejmmjedognaaaaGreat

namespace Go.Proofs.YtejmmjedognaaaaGreat
open Go.RowKit
open St

/-- Each root stands for a valid term. -/
def RtsOk (gs : List Frg) (S : List Slt) (roots : List Int) : Prop := ∀ x ∈ roots, ∃ t, Rd gs S x t ∧ t.wt ≤ 300

set_option maxRecDepth 100000 in
theorem Mm.iface {w : World} {gs : List Frg} {mv : Value} (h : Mm w gs mv) : ∃ T v, mv = .iface T v := by
  cases h with
  | whole r d hd hm e em => exact ⟨_, _, em⟩
  | apart A n c rs fs hf hs hn he em => exact ⟨_, _, em⟩
set_option maxRecDepth 100000 in
set_option maxRecDepth 100000 in
set_option maxHeartbeats 8000000 in
theorem readable_any {w : World} {gs : List Frg} {S : List Slt} {mv : Value} {SA : Option Addr} {sm sc : Nat} (hM : Mem gs S mv SA sm sc w) {A : Option Addr} {m c : Nat} {roots : List Int} (hz : Zs .u64 w A m c roots) (hm : m ≤ 1000) :
    Calls Tryz.prog 31 #[mv, .slice SA sm sc, .slice A m c] w fun e w' => ∃ b, e = .returned (.bool b) ∧ (b = true ↔ RtsOk gs S roots) ∧ Below w.heap.size w w' := by
  have hmm := @run_makeMap Tryz.prog
  obtain ⟨T, v, hmv⟩ := hM.mm.iface
  obtain ⟨E, hE⟩ : ∃ E, E = w.heap.size := ⟨_, rfl⟩
  obtain ⟨wc, hwc⟩ : ∃ wc, wc = (w.alloc (.map #[] 0)).alloc (.cells #[mv, .slice SA sm sc, .map (some E)] 68) := ⟨_, rfl⟩
  have hbc : Below w.heap.size w wc := by rw [hwc]; exact ((Below.refl _ w).alloc (Nat.le_refl _) _).alloc (by simp) _
  have rd : Rdr wc (E + 1) mv SA sm sc (.map (some E)) := by
    rw [hwc]
    have h9 := Rdr.new (w.alloc (.map #[] 0)) mv SA sm sc (.map (some E))
    have e9 : (w.alloc (.map #[] 0)).heap.size = E + 1 := by rw [hE]; simp
    rw [e9] at h9
    exact h9
  have hown : wc.ownsMap Tryz.prog 30 (plainElem (H := Unit) Tryz.prog 3) E 0 (.map []) := by
    rw [hwc, hE]
    exact (World.ownsMap_made w Tryz.prog 30 (plainElem (H := Unit) Tryz.prog 3)).alloc _
  have hK : KN gs S wc (.map (some E)) 0 := .inr ⟨E, rfl, .map [], hown, Maps.tidy_empty, fun x hx => by cases hx⟩
  have H0 := Lib.hid (And.intro (Ch.refl hK) (And.intro hK (And.intro (hM.below hbc) (And.intro (hz.below hbc) rd))))
  have HB := Lib.hid hbc
  have HA : Hid (0 < m → ∃ b o, A = some ⟨b, o, none⟩) := Lib.hid (fun h => by
    obtain ⟨b, o, e, _⟩ := hz.some h
    exact ⟨b, o, e⟩)
  have hl := Lib.hid hz.len
  have HW := Lib.hid (fun w n x hx hn hK hM => rdWeight_any gs S mv SA sm sc (.map (some E)) 300 (Nat.le_refl _) w n x hx hn hK hM)
  clear hM hz rd hbc hown hK
  subst hmv
  go_enter Tryz.func31, Tryz.ntmps31
  go_upto_region 2 with fail
  rw [← hE]
  rw [← hwc]
  clear hwc
  replace hE := Lib.hid hE
  go_wp2_with fail
  go_loopw [16] (fun v16 wx => ∃ i : Nat, i ≤ m ∧ v16 = .int .i64 (i : Int) ∧ Hid (RtsOk gs S (roots.take i)) ∧ Hid (Ch (.map (some E)) wc wx ∧ (∃ n, n ≤ 300 * i ∧ KN gs S wx (.map (some E)) n) ∧ Mem gs S (.iface T v) SA sm sc wx ∧ Zs .u64 wx A m c roots ∧ Rdr wx (E + 1) (.iface T v) SA sm sc (.map (some E)))) (fun v16 _ => m - (intOf v16).toNat)
  case atStart => exact ⟨0, Nat.zero_le _, rfl, Lib.hid (fun x hx => by simp at hx), Lib.hid ⟨H0.out.1, ⟨0, Nat.zero_le _, H0.out.2.1⟩, H0.out.2.2⟩⟩
  case round =>
    clear H0
    obtain ⟨i, hi, rfl, HR, H⟩ := hrel
    by_cases him : i < m
    · have hd1 : decide ((i : Int) < (m : Int)) = true := decide_eq_true (by omega)
      obtain ⟨b, o, hA⟩ := HA.out (by omega)
      subst hA
      obtain ⟨hC, ⟨n, hn, hK⟩, hMm, hz, rd⟩ := H.out
      have y0 := hz.at_ him
      have hx := wf_u (hz.wfAt him)
      have q0 := rd.c0
      have q1 := rd.c1
      have q2 := rd.c2
      have hW1 := HW.out wr n (roots.getD i 0) hx (by omega) hK hMm
      rw [show ((300 : Nat) : Int) = 300 from rfl] at hW1
      replace hW1 := Lib.hid hW1
      have hil := Lib.hid (show i < roots.length by rw [hl.out]; exact him)
      clear hC hK hMm hz rd hx
      generalize hxx : roots.getD i 0 = x at *
      replace hxx := Lib.hid hxx
      go_wp2_with (go_at_call 26; (with_reducible refine hW1.out.mono ?_); rintro e w1 ⟨v1, n1, rfl, hv, hv9, hK1, hn1, hn2, hC1⟩; replace hK1 := Lib.hid hK1; replace hC1 := Lib.hid hC1; (rcases hv with ⟨hv0, hno⟩ | ⟨hv1, hv2, t, hrt, htw⟩); (have hd2 : ((v1 : Int) == 0) = true := by rw [hv0]; rfl); rotate_left 1; (have hd2 : ((v1 : Int) == 0) = false := beq_eq_false_iff_ne.2 (by omega)); rotate_left 1)
      · have HF : Hid (¬ RtsOk gs S roots) := Lib.hid (fun hh => by
          obtain ⟨t, ht, hw⟩ := hh x (by
            rw [← hxx.out, List.getD_eq_getElem?_getD, List.getElem?_eq_getElem hil.out]
            exact List.getElem_mem hil.out)
          have := hno t ht
          omega)
        go_ret
        exact ⟨false, rfl, ⟨fun h => absurd h (by decide), fun h => absurd h HF.out⟩, HB.out.trans ((H.out.1.trans hC1.out).chg.toBelow (fun k hk => by cases hk; exact Nat.le_of_eq hE.out.symm) HB.out.size)⟩
      · have HR2 : Hid (RtsOk gs S (roots.take (i + 1))) := Lib.hid (by
          rw [take_gd hil.out]
          intro y hy
          rcases List.mem_append.1 hy with hy | hy
          · exact HR.out y hy
          · rw [List.mem_singleton, hxx.out] at hy
            subst hy
            exact ⟨t, hrt, by omega⟩)
        have HC : Hid (Ch (.map (some E)) wc w1 ∧ KN gs S w1 (.map (some E)) n1 ∧ Mem gs S (.iface T v) SA sm sc w1 ∧ Zs .u64 w1 (some ⟨b, o, none⟩) m c roots ∧ Rdr w1 (E + 1) (.iface T v) SA sm sc (.map (some E))) := Lib.hid ⟨H.out.1.trans hC1.out, hK1.out, H.out.2.2.1.ch hC1.out, hC1.out.zs H.out.2.2.2.1, ⟨hC1.out.blk H.out.2.2.2.2.blk⟩⟩
        exact ⟨⟨i + 1, by omega, rfl, HR2, Lib.hid ⟨HC.out.1, ⟨n1, by omega, HC.out.2.1⟩, HC.out.2.2⟩⟩, by simp [intOf]; omega⟩
    · have e : i = m := by omega
      subst e
      have hd1 : decide ((i : Int) < (i : Int)) = false := decide_eq_false (by omega)
      have HR2 : Hid (RtsOk gs S roots) := Lib.hid (by
        have h9 := HR.out
        rw [List.take_of_length_le (by rw [hl.out]; exact Nat.le_refl _)] at h9
        exact h9)
      go_wp2
      go_ret
      exact ⟨true, rfl, ⟨fun _ => HR2.out, fun _ => rfl⟩, HB.out.trans (H.out.1.chg.toBelow (fun k hk => by cases hk; exact Nat.le_of_eq hE.out.symm) HB.out.size)⟩
end Go.Proofs.YtejmmjedognaaaaGreat

namespace Go.Proofs.YtejmmjedognaaaaGreat
open Go.RowKit Go.Shelf
open St
attribute [local go_sem] Oper.semAt_some

set_option maxRecDepth 100000 in
theorem Bx.chgd {w w' : World} {D : Nat} {r : DR} {K : Nat → Prop} (h : Bx w D r) (hc : Chg K w w') (hD : ¬ K D) : Bx w' D r := ⟨(hc.block D h.lt hD).trans h.blk⟩

set_option maxRecDepth 100000 in
set_option maxRecDepth 100000 in
set_option maxHeartbeats 4000000 in
theorem regions1_k (n : Nat) (hn1 : 1 ≤ n) (l B0 : Nat) (K : Nat → Prop) (r : DR) (d : Dmp) (hm : r.fm ≤ 1000) (J Jx : List FR → World → Prop) {M : Obj → Prop} {B : Nat} (hAb : AbM M B J)
    (hY : ∀ pre x W, J pre W → (∃ k, pre ++ [x] = (r.y :: r.o :: r.rs).take k) → YieldAt Fence.wide (n - 1) Tryz.prog l #[.agg #[.int .i64 x.at_, .slice x.A x.n x.c]] W fun e W' =>
      (e = .returned (.bool true) ∧ J (pre ++ [x]) W' ∧ Chg K W W') ∨ (e = .returned (.bool false) ∧ Jx (pre ++ [x]) W'))
    (W : World) (hx : Bx W B0 r) (hB : ¬ K B0) (hv0 : ∀ V, Chg K W V → DV V r d) (h0 : J [] W) :
    CallsIn Fence.wide n Tryz.prog 94 #[.func (.yield l) #[] #[], .pointer (some ⟨B0, 0, none⟩)] W fun e W' => (∃ v, e = .returned v) ∧
      ((∃ ys, ys = r.y :: r.o :: r.rs ∧ J ys W') ∨ (∃ pre, (∃ k, pre = (r.y :: r.o :: r.rs).take k) ∧ Jx pre W')) := by
  refine callsIn_of_wp Tryz.func94 rfl trivial ?_ rfl
  simp only [Tryz.ntmps94, List.size_toArray, List.length_cons, List.length_nil, Nat.reduceAdd, Nat.reduceSub, Array.replicate_succ, Array.replicate_zero, List.push_toArray, List.append_toArray, List.nil_append, List.cons_append]
  have c0 := hx.c0
  have c1 := hx.c1
  obtain ⟨fn, tmps, assign, body, hy, hR⟩ := hY [] r.y W h0 ⟨1, rfl⟩
  have key : ∀ k, k < r.rs.length → (r.y :: r.o :: r.rs).take (k + 3) = (r.y :: r.o :: r.rs).take (k + 2) ++ [r.rs.getD k FR.zero] := fun k hk => by
    have := take_fr (rs := r.y :: r.o :: r.rs) (i := k + 2) (by simpa using hk)
    simpa using this
  gi_wp2
  refine hR.mono ?_
  rintro e W1 (⟨rfl, hJ1, hk1⟩ | ⟨rfl, hJx1⟩)
  · have x1 := hx.chgd hk1 hB
    have d2 := x1.c2
    have d3 := x1.c3
    clear c0 c1 hy hR
    obtain ⟨fn, tmps, assign, body, hy, hR⟩ := hY [r.y] r.o W1 hJ1 ⟨2, rfl⟩
    gi_wp2
    refine hR.mono ?_
    rintro e W2 (⟨rfl, hJ2, hk2⟩ | ⟨rfl, hJx2⟩)
    · have x2 := x1.chgd hk2 hB
      have d6 := x2.c6
      have hk12 := hk1.trans hk2 (fun _ _ h => h)
      have v2 := (hv0 W2 hk12).fs
      have hl : r.rs.length = r.fm := v2.len
      have hfc : r.fc ≤ 9223372036854775807 := v2.cm
      clear d2 d3 hy hR x1
      gi_wp2
      by_cases hF : r.fm = 0
      · rw [hF]
        gi_loopw [20] (fun i wr => i = .int .i64 0 ∧ J [r.y, r.o] wr) (fun _ _ => 0)
        case atStart => exact ⟨rfl, hJ2⟩
        case round =>
          obtain ⟨rfl, hJs⟩ := hrel
          gi_wp2
          go_end0
          have e : r.rs = [] := List.eq_nil_of_length_eq_zero (by omega)
          exact ⟨⟨_, rfl⟩, .inl ⟨_, rfl, by rw [e]; exact hJs⟩⟩
      · obtain ⟨b, o, hA, hbl⟩ := v2.some (by omega)
        rw [hA]
        gi_loopw [20] (fun i wr => ∃ k : Nat, k ≤ r.fm ∧ i = .int .i64 k ∧ J ((r.y :: r.o :: r.rs).take (k + 2)) wr ∧ Chg K W wr) (fun i _ => r.fm - (intOf i).toNat)
        case atStart => exact ⟨0, Nat.zero_le _, rfl, hJ2, hk12⟩
        case round =>
          obtain ⟨k, hk, rfl, hJs, hbw⟩ := hrel
          by_cases hlt : k < r.fm
          · have hd1 : decide ((k : Int) < (r.fm : Int)) = true := decide_eq_true (by omega)
            have v3 := (hv0 wr hbw).fs
            rw [hA] at v3
            obtain ⟨y0, y1⟩ := v3.at_ hlt
            have hkey := key k (by omega)
            obtain ⟨f, hf⟩ : ∃ f, f = r.rs.getD k FR.zero := ⟨_, rfl⟩
            rw [← hf] at y0 y1 hkey
            have hJa := hAb.alloc (.cells #[.int .i64 f.at_, .slice f.A f.n f.c] 24) hJs
            obtain ⟨fn, tmps, assign, body, hy, hR⟩ := hY _ f _ hJa ⟨k + 3, hkey.symm⟩
            have hbw2 : Chg K wr (wr.alloc (.cells #[.int .i64 f.at_, .slice f.A f.n f.c] 24)) := Chg.below ((Below.refl _ wr).alloc (Nat.le_refl _) _)
            clear hf hY v3 hJa
            gi_wp2
            refine hR.mono ?_
            rintro e W3 (⟨rfl, hJ3, hk3⟩ | ⟨rfl, hJx3⟩)
            · gi_wp2
              go_roundw
              case rel => exact ⟨k + 1, by omega, by simp, by rw [hkey]; exact hJ3, (hbw.trans hbw2 (fun _ _ h => h)).trans hk3 (fun _ _ h => h)⟩
              case measure => simp [intOf]; omega
            · gi_wp2
              refine bodyPost_ret (results_none rfl _ _ _) rfl ?_
              exact ⟨⟨_, rfl⟩, .inr ⟨_, ⟨k + 3, hkey.symm⟩, hJx3⟩⟩
          · have e : k = r.fm := by omega
            subst e
            have hd1 : decide ((r.fm : Int) < (r.fm : Int)) = false := decide_eq_false (by omega)
            gi_wp2
            go_end0
            refine ⟨⟨_, rfl⟩, .inl ⟨_, rfl, ?_⟩⟩
            rw [List.take_of_length_le (by simp; omega)] at hJs
            exact hJs
    · gi_wp2
      refine bodyPost_ret (results_none rfl _ _ _) rfl ?_
      exact ⟨⟨_, rfl⟩, .inr ⟨_, ⟨2, rfl⟩, hJx2⟩⟩
  · gi_wp2
    refine ⟨fun _ h => (by cases h), ?_⟩
    gi_wp2
    refine bodyPost_ret (results_none rfl _ _ _) rfl ?_
    exact ⟨⟨_, rfl⟩, .inr ⟨_, ⟨1, rfl⟩, hJx1⟩⟩

set_option maxRecDepth 100000 in
theorem regions_seqK (n : Nat) (hn1 : 1 ≤ n) (B0 : Nat) (K : Nat → Prop) (r : DR) (d : Dmp) (hm : r.fm ≤ 1000) (w : World) (hx : Bx w B0 r) (hB : ¬ K B0) (hv0 : ∀ V, Chg K w V → DV V r d) :
    SeqM Fence.wide n Tryz.prog 94 #[.pointer (some ⟨B0, 0, none⟩)] encF (fun _ => False) (Chg K) (fun l => ∃ k, l = (r.y :: r.o :: r.rs).take k) (fun l => l = r.y :: r.o :: r.rs) (fun l => ∃ k, l = (r.y :: r.o :: r.rs).take k) w := by
  intro l J Jx W hW hJ hJx hY h0
  refine (regions1_k n hn1 l B0 K r d hm J Jx hJ hY W (hx.chgd (Chg.below hW) hB) hB ?_ h0).mono ?_
  · intro V hV
    exact hv0 V ((Chg.below (K := K) hW).trans hV (fun _ _ h => h))
  · rintro e W' ⟨he, hh⟩
    exact ⟨he, hh⟩
end Go.Proofs.YtejmmjedognaaaaGreat

namespace Go.Proofs.YtejmmjedognaaaaGreat
open Go.RowKit
open St

def sortFr_ren : Go.Shelf.Ren := ⟨fun | 20 => 127 | n => n, fun | 24 => 24 | 22 => 25 | 3 => 3 | 25 => 113 | 4 => 4 | 0 => 0 | n => n, fun | n => n⟩
set_option maxRecDepth 100000 in
theorem sortFr : Go.Proofs.SlLaysF0.n20 Tryz.prog sortFr_ren := {
  mixed := by kernel_rfl
  f20 := ⟨Tryz.f127.name, by decide, Tryz.func127.trans (congrArg some (by kernel_rfl))⟩
  t0 := Tryz.underlying0
  a0 := Tryz.isAgg0
  z0 := Tryz.sizeOf0
  v0 := Tryz.zeroValue0
  t3 := Tryz.underlying3
  a3 := Tryz.isAgg3
  z3 := Tryz.sizeOf3
  v3 := Tryz.zeroValue3
  t4 := Tryz.underlying4
  a4 := Tryz.isAgg4
  z4 := Tryz.sizeOf4
  v4 := Tryz.zeroValue4
  t22 := Tryz.underlying25
  a22 := Tryz.isAgg25
  z22 := Tryz.sizeOf25
  v22 := Tryz.zeroValue25
  t25 := Tryz.underlying113
  a25 := Tryz.isAgg113
  z25 := Tryz.sizeOf113
  v25 := Tryz.zeroValue113 }

def fsg (x y : Int) : Int := if x < y then -1 else if y < x then 1 else 0
set_option maxRecDepth 100000 in
theorem nan_intL (x : Int) (w : World) : Calls Tryz.prog 96 #[.int .i64 x] w fun e w' => e = .returned (.bool false) ∧ w = w' := by
  go_enter Tryz.func96, Tryz.ntmps96
  go_wp2
  go_ret
  exact ⟨rfl, rfl⟩
set_option maxRecDepth 100000 in
theorem compareL (x y : Int) (w : World) : Calls Tryz.prog 64 #[.int .i64 x, .int .i64 y] w fun e w' => e = .returned (.int .i64 (fsg x y)) ∧ w = w' := by
  rcases Int.lt_trichotomy x y with h | h | h
  · have fin : Hid (fsg x y = -1) := Lib.hid (by unfold fsg; rw [if_pos h])
    have hd : decide (x < y) = true := decide_eq_true h
    clear h
    go_enter Tryz.func64, Tryz.ntmps64
    go_wp2_with (go_at_call 96; refine (nan_intL _ _).mono ?_; rintro e w' ⟨rfl, rfl⟩)
    go_ret
    rw [fin.out]; exact ⟨rfl, rfl⟩
  · subst h
    have fin : Hid (fsg x x = 0) := Lib.hid (by unfold fsg; rw [if_neg (by omega), if_neg (by omega)])
    go_enter Tryz.func64, Tryz.ntmps64
    go_wp2_with (go_at_call 96; refine (nan_intL _ _).mono ?_; rintro e w' ⟨rfl, rfl⟩)
    go_ret
    rw [fin.out]; exact ⟨rfl, rfl⟩
  · have fin : Hid (fsg x y = 1) := Lib.hid (by unfold fsg; rw [if_neg (by omega), if_pos h])
    have hd : decide (x < y) = false := decide_eq_false (by omega)
    have hd' : decide (y < x) = true := decide_eq_true h
    clear h
    go_enter Tryz.func64, Tryz.ntmps64
    go_wp2_with (go_at_call 96; refine (nan_intL _ _).mono ?_; rintro e w' ⟨rfl, rfl⟩)
    go_ret
    rw [fin.out]; exact ⟨rfl, rfl⟩

def encP (x : FR × Frg) : List Value := [.int .i64 x.1.at_, .slice x.1.A x.1.n x.1.c]
instance : Inhabited (FR × Frg) := ⟨(FR.zero, Frg.zero)⟩
def cfP (x y : FR × Frg) : Int := fsg x.1.at_ y.1.at_
set_option maxRecDepth 100000 in
theorem ltP (x y : FR × Frg) : Go.Proofs.ltOf cfP x y = decide (x.1.at_ < y.1.at_) := by
  unfold Go.Proofs.ltOf cfP fsg
  by_cases h1 : x.1.at_ < y.1.at_
  · simp [h1]
  · by_cases h2 : y.1.at_ < x.1.at_ <;> simp [h1, h2]
set_option maxRecDepth 100000 in
theorem swoP : Go.Sort.SWO (Go.Proofs.ltOf cfP) where
  irrefl x := by rw [ltP]; simp
  trans x y z h1 h2 := by rw [ltP] at *; simp at *; omega
  ntrans x y z h1 h2 := by rw [ltP] at *; simp at *; omega

set_option maxRecDepth 100000 in
theorem sep1_any (x y : FR × Frg) (W : World) : Calls Tryz.prog 63 #[.agg #[.int .i64 x.1.at_, .slice x.1.A x.1.n x.1.c], .agg #[.int .i64 y.1.at_, .slice y.1.A y.1.n y.1.c]] W fun e w' => e = .returned (.int .i64 (cfP x y)) ∧ ∃ q os', w' = Go.Sort.grow (W.drewN q) os' := by
  have HC := fun W' => compareL x.1.at_ y.1.at_ W'
  unfold cfP
  generalize fsg x.1.at_ y.1.at_ = r at HC ⊢
  go_enter Tryz.func63, Tryz.ntmps63
  go_wp2_with (go_at_call 64; refine (HC _).mono ?_; rintro e w' ⟨rfl, rfl⟩)
  go_ret
  exact ⟨rfl, 0, _, by rw [Go.Sort.alloc_eq_grow, Go.Sort.alloc_eq_grow, Go.Sort.grow_grow]; rfl⟩

set_option maxRecDepth 100000 in
set_option maxRecDepth 100000 in
theorem bits64_any (n : Nat) (hn : n ≤ 8) (w : World) : Calls Tryz.prog 112 #[.int .u64 (n : Int)] w fun e w' => (∃ l : Int, e = .returned (.int .i64 l)) ∧ w = w' := by
  have h : n = 0 ∨ n = 1 ∨ n = 2 ∨ n = 3 ∨ n = 4 ∨ n = 5 ∨ n = 6 ∨ n = 7 ∨ n = 8 := by omega
  rcases h with rfl | rfl | rfl | rfl | rfl | rfl | rfl | rfl | rfl
  all_goals
    go_enter Tryz.func112, Tryz.ntmps112
    go_wp2
    go_ret
    exact ⟨⟨_, rfl⟩, rfl⟩
set_option maxRecDepth 100000 in
theorem bits_any (n : Nat) (hn : n ≤ 8) (w : World) : Calls Tryz.prog 77 #[.int .u64 (n : Int)] w fun e w' => (∃ l : Int, e = .returned (.int .i64 l)) ∧ w = w' := by
  have HC := Lib.hid (bits64_any n hn w)
  go_enter Tryz.func77, Tryz.ntmps77
  go_wp2_with (go_at_call 112; refine HC.out.mono ?_; rintro e w' ⟨⟨l, rfl⟩, rfl⟩)
  go_ret
  exact ⟨⟨_, rfl⟩, rfl⟩

set_option maxRecDepth 100000 in
theorem cmpLaysP (g size : Nat) (w : World) : CmpLays Tryz.prog 63 #[] encP 2 cfP g 0 size w :=
  fun _ _ _ _ x y => sep1_any x y _
set_option maxRecDepth 100000 in
theorem ins_some {w : World} {g c : Nat} {d : Array (FR × Frg)} (hH : Go.Sort.HoldsK encP 2 w g 0 d) (hg : g < w.heap.size) (hsz : d.size ≤ 8) :
    Calls Tryz.prog 127 #[.slice (some ⟨g, 0, none⟩) d.size c, .int .i64 0, .int .i64 (d.size : Int), .func (.func 63) #[] #[]] w fun e w' =>
      e = .returned (.tuple #[]) ∧ ∃ n os, w' = Go.Proofs.sortWorldK encP 2 w g 0 n (Go.Sort.insertionSort (Go.Proofs.ltOf cfP) d 0 d.size) os :=
  AnyQ.insertionSortCmpFunc sortFr 2 Tryz.isAgg24 Tryz.sizeOf24 encP (fun _ => rfl) (fun x v hv => by simp [encP] at hv; rcases hv with rfl | rfl <;> rfl) cfP 63 #[] g 0 c 0 d.size d w
    (enters_of Tryz.func63 (by kernel_rfl) rfl) (cmpLaysP g d.size w) hH hg (Nat.zero_le _) (Nat.le_refl _) (by omega)
set_option maxRecDepth 100000 in
theorem ins_none (A : Option Addr) (c : Nat) (w : World) :
    Calls Tryz.prog 127 #[.slice A 0 c, .int .i64 0, .int .i64 0, .func (.func 63) #[] #[]] w fun e w' => e = .returned (.tuple #[]) ∧ w = w' := by
  go_enter Tryz.func127, Tryz.ntmps127
  go_wp2
  refine wp_loop_rounds 1 ?_
  rw [rounds_succ]
  go_wp2
  go_end0
  exact ⟨rfl, rfl⟩
set_option maxRecDepth 100000 in
set_option maxRecDepth 100000 in
set_option maxHeartbeats 2000000 in
theorem pdq_of {A : Option Addr} {m c : Nat} {w : World} {Q : Ending → World → Prop} (hm : m ≤ 8) (lim : Int)
    (h : Calls Tryz.prog 127 #[.slice A m c, .int .i64 0, .int .i64 (m : Int), .func (.func 63) #[] #[]] w fun e w' => e = .returned (.tuple #[]) ∧ Q e w') :
    Calls Tryz.prog 95 #[.slice A m c, .int .i64 0, .int .i64 (m : Int), .int .i64 lim, .func (.func 63) #[] #[]] w fun e w' => e = .returned (.tuple #[]) ∧ Q e w' := by
  have HC := Lib.hid h
  have hd : decide ((m : Int) ≤ 12) = true := decide_eq_true (by omega)
  clear h
  go_enter Tryz.func95, Tryz.ntmps95
  go_wp2
  refine wp_loop_rounds 1 ?_
  rw [rounds_succ]
  go_wp2_with (go_at_call 127; refine HC.out.mono ?_; rintro e w' ⟨rfl, hq⟩)
  (try simp only [Exit.inBlock, Exit.then]); refine bodyPost_ret (results_none rfl _ _ _) rfl ?_
  exact ⟨rfl, hq⟩
set_option maxRecDepth 100000 in
set_option maxRecDepth 100000 in
set_option maxHeartbeats 2000000 in
theorem sf_of {A : Option Addr} {m c : Nat} {w : World} {Q : Ending → World → Prop} (hm : m ≤ 8)
    (h : Calls Tryz.prog 127 #[.slice A m c, .int .i64 0, .int .i64 (m : Int), .func (.func 63) #[] #[]] w fun e w' => e = .returned (.tuple #[]) ∧ Q e w') :
    Calls Tryz.prog 62 #[.slice A m c, .func (.func 63) #[] #[]] w fun e w' => e = .returned (.tuple #[]) ∧ Q e w' := by
  have HC := Lib.hid (fun lim => pdq_of hm lim h)
  have HB := Lib.hid (bits_any m hm)
  have hw : (m : Int) % 18446744073709551616 = (m : Int) := by omega
  clear h
  go_enter Tryz.func62, Tryz.ntmps62
  go_wp2_with (first
    | (go_at_call 77; refine (HB.out _).mono ?_; rintro e w' ⟨⟨l, rfl⟩, rfl⟩)
    | (go_at_call 95; refine (HC.out _).mono ?_; rintro e w' ⟨rfl, hq⟩))
  go_end0
  exact ⟨rfl, hq⟩

set_option maxRecDepth 100000 in
theorem flat_get (d : Array (FR × Frg)) (t : Nat) (h : t < d.size * 2) : (frcs (d.toList.map (·.1)))[t]? = some ((Go.Sort.flatK encP 2 d)[t]!) := by
  have e : t = t / 2 * 2 + t % 2 := by omega
  have hl : t / 2 < d.size := by omega
  rw [Go.Sort.get_flatK encP 2 d t h]
  conv => lhs; rw [e]
  rw [frcs_get _ _ _ (by simpa using hl) (by omega)]
  have e1 : (d.toList.map (·.1)).getD (t / 2) FR.zero = (d[t / 2]!).1 := by
    rw [List.getD_eq_getElem?_getD, List.getElem?_map, Array.getElem?_toList, Array.getElem?_eq_getElem hl, getElem!_pos d (t / 2) hl]
    rfl
  rw [e1]
  have h2 : t % 2 = 0 ∨ t % 2 = 1 := by omega
  rcases h2 with h2 | h2 <;> rw [h2] <;> rfl
set_option maxRecDepth 100000 in
theorem frcs_map_len (L : List (FR × Frg)) : (frcs (L.map (·.1))).length = L.length * 2 := by rw [frcs_len, List.length_map]

set_option maxRecDepth 100000 in
theorem sort_post {w w' : World} {B g cap n : Nat} {cur : Array Value} {d d' : Array (FR × Frg)} {os : Array Obj} (hB : B ≤ g) (hg : w.heap[g]? = some (.cells cur 24 (0, 0))) (hn : d.size ≤ cap) (hc : cap ≤ maxLen) (hs : cur.size = cap * 2) (hd : d'.size = d.size)
    (hw : w' = Go.Proofs.sortWorldK encP 2 w g 0 n d' os) :
    w'.ownsRow B 24 2 (.slice (some ⟨g, 0, none⟩) d.size cap) d.size (frcs (d'.toList.map (·.1))) ∧ Chg (fun k => g = k) w w' := by
  have hlt := (Array.getElem?_eq_some_iff.1 hg).1
  have hhp : ∀ k, k < w.heap.size → w'.heap[k]? = (w.heap.modify g (Go.Sort.onCells (Go.Sort.putCells id 0 (Go.Sort.flatK encP 2 d'))))[k]? := fun k hk => by
    rw [hw]
    unfold Go.Proofs.sortWorldK
    rw [Go.Sort.heap_grow_old _ _ (by simp [Go.Sort.putRowK, Go.Sort.putRow, Go.Sort.mapBlock, Go.Sort.ahead]; exact hk)]
    rfl
  refine ⟨⟨by rw [frcs_map_len]; simp [hd], .inr ⟨g, cap, Go.Sort.putCells id 0 (Go.Sort.flatK encP 2 d') cur, rfl, hB, ?_, hn, hc, by simp [Go.Sort.putCells, hs], ?_⟩⟩, ?_⟩
  · rw [hhp g hlt, Array.getElem?_modify]
    simp [hg, Go.Sort.onCells]
  · apply List.ext_getElem?
    intro i
    by_cases hi : i < d.size * 2
    · rw [List.getElem?_take_of_lt hi, flat_get d' i (by rw [hd]; exact hi)]
      have hic : i < cur.size := by rw [hs]; omega
      rw [Array.getElem?_toList]
      simp [Go.Sort.putCells, hic, hd, hi]
    · rw [List.getElem?_eq_none (by rw [List.length_take]; omega), List.getElem?_eq_none (by rw [frcs_map_len]; simp [hd]; omega)]
  · refine ⟨by rw [hw]; rfl, by rw [hw]; rfl, by rw [hw]; rfl, ?_, fun k hk hne => ?_⟩
    · rw [hw]
      unfold Go.Proofs.sortWorldK
      simp [Go.Sort.putRowK, Go.Sort.putRow, Go.Sort.mapBlock, Go.Sort.ahead]
    · rw [hhp k hk, Array.getElem?_modify, if_neg hne]

set_option maxRecDepth 100000 in
/-- slices.SortFunc over a row of regions. -/
theorem sortF_any {w : World} {B : Nat} {A : Option Addr} {c : Nat} {L : List (FR × Frg)} (hr : w.ownsRow B 24 2 (.slice A L.length c) L.length (frcs (L.map (·.1)))) (hn : L.length ≤ 8) :
    Calls Tryz.prog 62 #[.slice A L.length c, .func (.func 63) #[] #[]] w fun e w' => e = .returned (.tuple #[]) ∧
      ∃ L' : List (FR × Frg), L'.Perm L ∧ (∀ i j, i < j → j < L.length → ((L'.getD i (FR.zero, Frg.zero)).1.at_ ≤ (L'.getD j (FR.zero, Frg.zero)).1.at_)) ∧ w'.ownsRow B 24 2 (.slice A L.length c) L.length (frcs (L'.map (·.1))) ∧ Chg (fun k => A.map (·.block) = some k) w w' := by
  rcases hr.2 with ⟨h0, h1⟩ | ⟨g, cap, cur, hv, hb, hg, hnc, hcm, hcs, htk⟩
  · have hL : L = [] := List.eq_nil_of_length_eq_zero h1
    subst hL
    injection h0 with e1 e2 e3
    subst e1 e3
    exact sf_of (m := 0) (by omega) ((ins_none none 0 w).mono fun e w' h => by
      obtain ⟨h, rfl⟩ := h
      exact ⟨h, [], List.Perm.refl _, fun i j _ h => by simp at h, hr, Chg.refl _ _⟩)
  · injection hv with e1 _ e3
    subst e1 e3
    have hlt := (Array.getElem?_eq_some_iff.1 hg).1
    have hsz : L.toArray.size = L.length := by simp
    have hH : Go.Sort.HoldsK encP 2 w g 0 L.toArray := fun j hj => by
      have hj2 : j < L.length * 2 := by simpa using hj
      refine ⟨?_, ?_⟩
      · rw [Nat.zero_add, World.ownsRow.cellAt hr j hj2]
        have := flat_get L.toArray j (by simpa using hj2)
        simpa using this
      · rw [Nat.zero_add]
        exact World.ownsRow.frozenAt hr j
    have hI := ins_some (c := c) hH hlt (by rw [hsz]; exact hn)
    rw [hsz] at hI
    refine sf_of hn (hI.mono fun e w' h => ?_)
    obtain ⟨h, n, os, hw⟩ := h
    have hp := Go.Sort.insertionSort_holds (lt := Go.Proofs.ltOf cfP) swoP L.toArray 0 L.toArray.size (Nat.zero_le _) (Nat.le_refl _)
    rw [hsz] at hp
    generalize Go.Sort.insertionSort (Go.Proofs.ltOf cfP) L.toArray 0 L.length = d' at hw hp
    obtain ⟨⟨hp1, _, hp3⟩, hp4⟩ := hp
    have hpm : d'.toList.Perm L := by
      have e1 : d'.extract 0 L.length = d' := by rw [← hsz, ← hp1]; exact Array.extract_size
      have e2 : L.toArray.extract 0 L.length = L.toArray := by rw [← hsz]; exact Array.extract_size
      rw [e1, e2] at hp3
      simpa using hp3
    have hs := sort_post hb hg (d := L.toArray) (by rw [hsz]; exact hnc) hcm hcs hp1 hw
    rw [hsz] at hs
    refine ⟨h, d'.toList, hpm, fun i j hij hj => ?_, hs.1, hs.2.mono (fun k _ e => by rw [← e]; rfl)⟩
    have h9 := hp4 i j (Nat.zero_le _) hij hj
    rw [ltP, decide_eq_false_iff_not] at h9
    have hjd : j < d'.size := by rw [hp1, hsz]; exact hj
    have g1 : ∀ i, i < d'.size → d'.toList.getD i (FR.zero, Frg.zero) = d'[i]! := fun i hi => by
      rw [List.getD_eq_getElem?_getD, Array.getElem?_toList, Array.getElem?_eq_getElem hi, getElem!_pos d' i hi]
      rfl
    rw [g1 i (by omega), g1 j hjd]
    omega
end Go.Proofs.YtejmmjedognaaaaGreat
