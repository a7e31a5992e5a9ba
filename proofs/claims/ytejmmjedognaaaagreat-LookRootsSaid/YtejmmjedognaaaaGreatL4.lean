/-
  DUMPS: CopyDump's walk.
  THE REFERENCE's LOOK: Regions, at, small.
-/
import Derived.Test.YtejmmjedognaaaaGreatL3
namespace Go.Proofs.YtejmmjedognaaaaGreat
open Go.RowKit
open St

set_option maxRecDepth 100000 in
theorem take_fg {fs : List Frg} {i : Nat} (h : i < fs.length) : fs.take (i + 1) = fs.take i ++ [fs.getD i Frg.zero] := by
  rw [List.take_add_one, List.getElem?_eq_getElem h]
  simp [h]

set_option maxRecDepth 100000 in
theorem chg9 (w : World) (D : Nat) (v0 v1 v2 v3 v4 v5 v6 v7 v8 : Value) : Chg (fun k => k = D) w (((((((((w.setCell ⟨D, 0, none⟩ v0).setCell ⟨D, 1, none⟩ v1).setCell ⟨D, 2, none⟩ v2).setCell ⟨D, 3, none⟩ v3).setCell ⟨D, 4, none⟩ v4).setCell ⟨D, 5, none⟩ v5).setCell ⟨D, 6, none⟩ v6).setCell ⟨D, 7, none⟩ v7).setCell ⟨D, 8, none⟩ v8) :=
  (((((((((Chg.refl (fun k => k = D) w).setCell (p := ⟨D, 0, none⟩) (.inl rfl) _).setCell (p := ⟨D, 1, none⟩) (.inl rfl) _).setCell (p := ⟨D, 2, none⟩) (.inl rfl) _).setCell (p := ⟨D, 3, none⟩) (.inl rfl) _).setCell (p := ⟨D, 4, none⟩) (.inl rfl) _).setCell (p := ⟨D, 5, none⟩) (.inl rfl) _).setCell (p := ⟨D, 6, none⟩) (.inl rfl) _).setCell (p := ⟨D, 7, none⟩) (.inl rfl) _).setCell (p := ⟨D, 8, none⟩) (.inl rfl) _
/-- A dump whose rows are one's own, from B on. -/
structure DOw (B : Nat) (w : World) (rc : DR) (d : Dmp) : Prop where
  y : FV w rc.y d.y
  ylo : ∀ k, rc.y.A.map (·.block) = some k → B ≤ k
  o : FV w rc.o d.o
  olo : ∀ k, rc.o.A.map (·.block) = some k → B ≤ k
  f : Rwf w B rc.F rc.fc rc.rs d.fs
  fm : rc.fm = rc.rs.length
set_option maxRecDepth 100000 in
theorem dow_chg {B : Nat} {w w' : World} {rc : DR} {d : Dmp} {K : Nat → Prop} (h : DOw B w rc d) (hc : Chg K w w') (hk : ∀ k, K k → k < B) : DOw B w' rc d :=
  ⟨fv_chg h.y hc (fun k e e2 => by have := h.ylo k e; have := hk k e2; omega), h.ylo, fv_chg h.o hc (fun k e e2 => by have := h.olo k e; have := hk k e2; omega), h.olo, rwf_chg h.f hc hk, h.fm⟩

/-- What CopyDump answers. -/
def CdP (w : World) (d : Dmp) (e : Ending) (w' : World) : Prop :=
  ∃ r', e = .returned (.agg #[.int .i64 r'.y.at_, .slice r'.y.A r'.y.n r'.y.c, .int .i64 r'.o.at_, .slice r'.o.A r'.o.n r'.o.c, .int .i64 r'.size, .int .i64 r'.mark, .slice r'.F r'.fm r'.fc, .slice r'.R r'.rm r'.rc, .slice r'.H r'.hm r'.hc]) ∧ DV w' r' d ∧ Below w.heap.size w w'

set_option maxRecDepth 100000 in
set_option maxRecDepth 100000 in
set_option maxHeartbeats 8000000 in
theorem copyDump_some {w : World} {r : DR} {d : Dmp} (h : DV w r d) (hs : Sm r) {b o : Nat} (hF : r.F = some ⟨b, o, none⟩) :
    Calls Tryz.prog 9 #[.agg #[.int .i64 r.y.at_, .slice r.y.A r.y.n r.y.c, .int .i64 r.o.at_, .slice r.o.A r.o.n r.o.c, .int .i64 r.size, .int .i64 r.mark, .slice r.F r.fm r.fc, .slice r.R r.rm r.rc, .slice r.H r.hm r.hc]] w (CdP w d) := by
  obtain ⟨wa, hwa⟩ : ∃ wa, wa = w.alloc (.cells #[.int .i64 r.y.at_, .slice r.y.A r.y.n r.y.c, .int .i64 r.o.at_, .slice r.o.A r.o.n r.o.c, .int .i64 r.size, .int .i64 r.mark, .slice r.F r.fm r.fc, .slice r.R r.rm r.rc, .slice r.H r.hm r.hc] 28) := ⟨_, rfl⟩
  obtain ⟨w0, hw0⟩ : ∃ w0, w0 = wa.alloc (.cells #[.int .i64 0, .slice none 0 0, .int .i64 0, .slice none 0 0, .int .i64 0, .int .i64 0, .slice none 0 0, .slice none 0 0, .slice none 0 0] 28) := ⟨_, rfl⟩
  have hba : Below w.heap.size w wa := by rw [hwa]; exact (Below.refl _ w).alloc (Nat.le_refl _) _
  have hsa : wa.heap.size = w.heap.size + 1 := by rw [hwa]; simp
  have hb0 : Below w.heap.size w w0 := by rw [hw0]; exact hba.alloc hba.size _
  have x0 : Bx w0 w.heap.size r := ⟨by rw [hw0, Below.heap_alloc _ _ _ (by omega), hwa]; exact heap_alloc_new w _⟩
  have z0 : Bx w0 (w.heap.size + 1) DR.zero := ⟨by rw [← hsa, hw0]; exact heap_alloc_new wa _⟩
  replace hF := Lib.hid hF
  go_enter Tryz.func9, Tryz.ntmps9
  go_upto_region 1 with fail
  rw [← hwa, ← hw0]
  clear hwa hw0 hba hsa
  have hA := hF.out
  generalize hD1 : w.heap.size = D1 at *
  generalize hD2 : D1 + 1 = D2 at *
  replace hD1 := Lib.hid hD1
  have hlt : D1 < D2 := by omega
  replace hD2 := Lib.hid hD2
  have hbv : Hid (∀ wx, Below D1 w wx → DV wx r d) := Lib.hid (fun wx hb => h.below (by rw [hD1.out]; exact hb))
  obtain ⟨A1, k1, wA, t1, zA, bA, lA⟩ := zs_copy und_ws ie_u (hbv.out _ hb0).y.ws (by have := hs.y; omega) 22
  have gA : Chg (fun _ => False) w0 wA := .below bA
  have xA := x0.chg gA (fun h => h)
  have zzA := z0.chg gA (fun h => h)
  have c1 := x0.c1
  have cA1 := xA.c1
  have fA1 := xA.fz 1
  have T1 := Lib.hid t1
  have K0 : Hid (Below D1 w w0 ∧ Bx wA D1 r ∧ Bx wA D2 DR.zero ∧ Chg (fun _ => False) w0 wA ∧ Zs .u64 wA A1 r.y.n k1 d.y.ws ∧ D2 < w0.heap.size ∧ (∀ k, A1.map (·.block) = some k → w0.heap.size ≤ k ∧ k < wA.heap.size)) := Lib.hid ⟨hb0, xA, zzA, gA, zA, z0.lt, lA⟩
  clear t1 zA bA lA gA xA zzA x0 z0 hb0
  go_upto_region 2 with (at_builtin; refine wpApp rfl (.const (.slice none 0 0)) (.tmp 7) _ rfl _ _ _ rfl rfl T1.out ?_)
  clear c1 cA1 fA1 T1
  have S2 : Hid (Below D1 w (wA.setCell ⟨D1, 1, none⟩ (.slice A1 r.y.n k1)) ∧ Bx (wA.setCell ⟨D1, 1, none⟩ (.slice A1 r.y.n k1)) D1 { r with y := ⟨r.y.at_, A1, r.y.n, k1⟩ } ∧ Bx (wA.setCell ⟨D1, 1, none⟩ (.slice A1 r.y.n k1)) D2 DR.zero ∧ FV (wA.setCell ⟨D1, 1, none⟩ (.slice A1 r.y.n k1)) ⟨r.y.at_, A1, r.y.n, k1⟩ d.y ∧ (∀ k, A1.map (·.block) = some k → D2 < k ∧ k < (wA.setCell ⟨D1, 1, none⟩ (.slice A1 r.y.n k1)).heap.size)) := Lib.hid (by
    obtain ⟨q1, q2, q3, q4, q5, q6, q7⟩ := K0.out
    have g : Chg (fun k => k = D1) wA (wA.setCell ⟨D1, 1, none⟩ (.slice A1 r.y.n k1)) := (Chg.refl (fun k => k = D1) wA).setCell (p := ⟨D1, 1, none⟩) (.inl rfl) _
    have hq := hbv.out _ q1
    refine ⟨(q1.trans (q4.toBelow (fun k h => h.elim) (Nat.le_of_lt (by omega)))).trans (g.toBelow (fun k e => by omega) (Nat.le_of_lt q2.lt)), q2.set1 _ _ _, q3.chg g (by omega), ⟨hq.y.at_, hq.y.wf, zs_chg q5 g (fun k hk e => by have := (q7 k hk).1; omega)⟩, fun k hk => ⟨by have := (q7 k hk).1; omega, by simpa using (q7 k hk).2⟩⟩)
  clear K0
  generalize wA.setCell ⟨D1, 1, none⟩ (.slice A1 r.y.n k1) = w2 at S2 ⊢
  obtain ⟨A2, k2, wB, t2, zB, bB, lB⟩ := zs_copy und_ws ie_u (hbv.out _ S2.out.1).o.ws (by have := hs.o; omega) 22
  have gB : Chg (fun _ => False) w2 wB := .below bB
  have x2 := S2.out.2.1
  have xB := x2.chg gB (fun h => h)
  have c3 := x2.c3
  have cB3 := xB.c3
  have fB3 := xB.fz 3
  have T2 := Lib.hid t2
  have K2 := Lib.hid (And.intro gB (And.intro xB (And.intro zB lB)))
  clear t2 zB bB lB gB xB x2
  go_upto_region 3 with (at_builtin; refine wpApp rfl (.const (.slice none 0 0)) (.tmp 13) _ rfl _ _ _ rfl rfl T2.out ?_)
  clear c3 cB3 fB3 T2
  have S3 : Hid (CdI w D1 D2 r d { r with y := ⟨r.y.at_, A1, r.y.n, k1⟩, o := ⟨r.o.at_, A2, r.o.n, k2⟩, F := none, fm := 0, fc := 0, rs := [] } [] ((wB.setCell ⟨D1, 3, none⟩ (.slice A2 r.o.n k2)).setCell ⟨D1, 6, none⟩ (.slice none 0 0)) ∧ (wB.setCell ⟨D1, 3, none⟩ (.slice A2 r.o.n k2)).cell? ⟨D1, 6, none⟩ = some (.slice r.F r.fm r.fc) ∧ (wB.setCell ⟨D1, 3, none⟩ (.slice A2 r.o.n k2)).frozen? ⟨D1, 6, none⟩ = false) := Lib.hid (by
    obtain ⟨q1, q2, q3, q4, q5⟩ := S2.out
    obtain ⟨p1, p2, p3, p4⟩ := K2.out
    have hq := hbv.out _ q1
    have x3 := p2.set3 A2 r.o.n k2
    have g : Chg (fun k => k = D1) wB ((wB.setCell ⟨D1, 3, none⟩ (.slice A2 r.o.n k2)).setCell ⟨D1, 6, none⟩ (.slice none 0 0)) := ((Chg.refl (fun k => k = D1) wB).setCell (p := ⟨D1, 3, none⟩) (.inl rfl) _).setCell (p := ⟨D1, 6, none⟩) (.inl rfl) _
    have hz2 := q3.lt
    refine ⟨⟨(q1.trans (p1.toBelow (fun k h => h.elim) (by omega))).trans (g.toBelow (fun k e => by omega) (Nat.le_of_lt p2.lt)), x3.set6 none 0 0 [], (q3.chg p1 (fun h => h)).chg g (by omega), hlt, fv_chg (fv_chg q4 p1 (fun _ _ h => h)) g (fun k hk e => by have := (q5 k hk).1; omega), fun k hk => ⟨(q5 k hk).1, by have h1 := (q5 k hk).2; have h2 := p1.size; simp; omega⟩,
      ⟨hq.o.at_, hq.o.wf, zs_chg p3 g (fun k hk e => by have := (p4 k hk).1; omega)⟩, fun k hk => ⟨by have := (p4 k hk).1; omega, by have h1 := (p4 k hk).2; simpa using h1⟩, rwf_nil _ _, rfl, (fun k hk => by cases hk), (fun k hk => by cases hk), rfl, rfl, rfl, rfl, rfl, rfl, rfl, rfl⟩, x3.c6, x3.fz 6⟩)
  have c6 := S3.out.2.1
  have f6 := S3.out.2.2
  replace S3 := Lib.hid S3.out.1
  clear S2 K2
  generalize wB.setCell ⟨D1, 3, none⟩ (.slice A2 r.o.n k2) = w3 at S3 c6 f6 ⊢
  have hfm : r.fm ≤ 6 := hs.fm
  go_wp2_with fail
  clear c6 f6
  go_loopw [4] (fun x wx => ∃ (i : Nat) (rc : DR), i ≤ r.fm ∧ x = .int .i64 (i : Int) ∧ CdI w D1 D2 r d rc (d.fs.take i) wx ∧ rc.fm = i) (fun x _ => r.fm - (intOf x).toNat)
  case atStart => exact ⟨0, _, Nat.zero_le _, rfl, by simpa using S3.out, rfl⟩
  case round =>
    clear S3
    obtain ⟨i, rc, hi, rfl, I, hrc⟩ := hrel
    have hv := hbv.out _ I.be
    by_cases hin : i < r.fm
    · have hd1 : decide ((i : Int) < (r.fm : Int)) = true := decide_eq_true (by omega)
      have vf := hv.fs
      rw [hA] at vf
      obtain ⟨y0, y1⟩ := vf.at_ hin
      have hfn := hs.fs i hin
      obtain ⟨A4, c4, w4, A6, c6, w6, t1, t2, ⟨⟨x4, b4⟩, x6⟩, J⟩ := cp_prep (I.drewN 1) (by have := I.fm; omega) (r.rs.getD i FR.zero) (d.fs.getD i Frg.zero) ((vf.fv i hin).drewN 1) (by omega)
      rw [← take_fg (by rw [vf.lef]; exact hin), hrc] at J
      have vg := (hbv.out _ b4).fs
      rw [hA] at vg
      obtain ⟨y2, y3⟩ := vg.at_ hin
      have e1 := I.x.c6
      have e4 := x4.c6
      have e5 := (x4.below ((Below.refl _ w4).alloc (Nat.le_refl _) (.cells #[.int .i64 (r.rs.getD i FR.zero).at_, .slice A4 (r.rs.getD i FR.zero).n c4] 24)) x4.lt).c6
      have e6 := x6.c6
      have g6 := x6.fz 6
      rw [hrc] at t2 e1 e4 e5 e6
      have T1 := Lib.hid t1
      have T2 := Lib.hid t2
      have HJ := Lib.hid J
      clear t1 t2 J x4 x6 vf vg hv I b4
      generalize r.rs.getD i FR.zero = fr at *
      go_wp2_with fail
      go_region_law (first | (refine step_apnd rfl (.const (.slice none 0 0)) (.tmp 37) 22 rfl (.slice none 0 0) _ _ rfl rfl T1.out ?_) | (refine step_apnd rfl (.tmp 27) (.tmp 40) 25 rfl (.slice rc.F i rc.fc) _ _ rfl rfl T2.out ?_))
      all_goals
        go_wp2_with fail
        exact ⟨⟨i + 1, _, by omega, rfl, HJ.out, rfl⟩, by simp [intOf]; omega⟩
    · have e : i = r.fm := by omega
      have hd1 : decide ((i : Int) < (r.fm : Int)) = false := decide_eq_false (by omega)
      have htk : d.fs.take i = d.fs := by rw [e, ← hv.fs.lef]; exact List.take_of_length_le (Nat.le_refl _)
      rw [htk] at I
      obtain ⟨A7, k7, wC, t7, zC, bC, lC⟩ := zs_copy und_ws ie_u hv.roots (by have := hs.rm; omega) 22
      have hzl := I.z.lt
      have gC : Chg (fun _ => False) wr wC := .below bC
      have xC := I.x.chg gC (fun h => h)
      have zzC := I.z.chg gC (fun h => h)
      have w8b : Below D1 w (wC.setCell ⟨D1, 7, none⟩ (.slice A7 r.rm k7)) := (I.be.trans (gC.toBelow (fun k h => h.elim) (by omega))).setCell (p := ⟨D1, 7, none⟩) (Nat.le_refl _) _
      obtain ⟨A8, k8, wD, t8, zD, bD, lD⟩ := zs_copy und_is ie_i (hbv.out _ w8b).hs (by have := hs.hm; omega) 26
      have g8 : Chg (fun k => k = D1) wC (wC.setCell ⟨D1, 7, none⟩ (.slice A7 r.rm k7)) := (Chg.refl (fun k => k = D1) wC).setCell (p := ⟨D1, 7, none⟩) (.inl rfl) _
      have gD : Chg (fun _ => False) (wC.setCell ⟨D1, 7, none⟩ (.slice A7 r.rm k7)) wD := .below bD
      have gE : Chg (fun k => k = D1) wD (wD.setCell ⟨D1, 8, none⟩ (.slice A8 r.hm k8)) := (Chg.refl (fun k => k = D1) wD).setCell (p := ⟨D1, 8, none⟩) (.inl rfl) _
      obtain ⟨r1, r2, r3, r4, r5, r6, r7, r8⟩ := I.rest
      have x8 := xC.set7 A7 r.rm k7
      have xD := x8.chg gD (fun h => h)
      have xE := xD.set8 A8 r.hm k8
      have zE := ((zzC.chg g8 (by omega)).chg gD (fun h => h)).chg gE (by omega)
      have oE : DOw (D2 + 1) (wD.setCell ⟨D1, 8, none⟩ (.slice A8 r.hm k8)) rc d :=
        dow_chg (dow_chg (dow_chg (dow_chg ⟨I.y, fun k hk => (I.ylo k hk).1, I.o, fun k hk => (I.olo k hk).1, I.f, I.fm⟩ gC (fun _ h => h.elim)) g8 (fun k e => by omega)) gD (fun _ h => h.elim)) gE (fun k e => by omega)
      have zz7 := zs_chg (zs_chg (zs_chg zC g8 (fun k hk e => by have := (lC k hk).1; omega)) gD (fun _ _ h => h)) gE (fun k hk e => by have := (lC k hk).1; omega)
      have hs8 : D2 < (wC.setCell ⟨D1, 7, none⟩ (.slice A7 r.rm k7)).heap.size := by have := gC.size; simp; omega
      have zz8 := zs_chg zD gE (fun k hk e => by have := (lD k hk).1; omega)
      have bE : Below D1 w (wD.setCell ⟨D1, 8, none⟩ (.slice A8 r.hm k8)) := (w8b.trans (gD.toBelow (fun k h => h.elim) (by omega))).setCell (p := ⟨D1, 8, none⟩) (Nat.le_refl _) _
      have q7 : wr.cell? ⟨D1, 7, none⟩ = some (.slice r.R r.rm r.rc) := by rw [← r3, ← r4, ← r5]; exact I.x.c7
      have q7c : wC.cell? ⟨D1, 7, none⟩ = some (.slice r.R r.rm r.rc) := by rw [← r3, ← r4, ← r5]; exact xC.c7
      have q7f := xC.fz 7
      have q8 : (wC.setCell ⟨D1, 7, none⟩ (.slice A7 r.rm k7)).cell? ⟨D1, 8, none⟩ = some (.slice r.H r.hm r.hc) := by rw [← r6, ← r7, ← r8]; exact x8.c8
      have q8c : wD.cell? ⟨D1, 8, none⟩ = some (.slice r.H r.hm r.hc) := by rw [← r6, ← r7, ← r8]; exact xD.c8
      have q8f := xD.fz 8
      have T7 := Lib.hid t7
      have T8 := Lib.hid t8
      have l7 : ∀ k, A7.map (·.block) = some k → D2 < k := fun k hk => by have := (lC k hk).1; omega
      have l8 : ∀ k, A8.map (·.block) = some k → D2 < k := fun k hk => by have := (lD k hk).1; omega
      have KE := Lib.hid (And.intro xE (And.intro zE (And.intro oE (And.intro zz7 (And.intro zz8 (And.intro bE (And.intro l7 l8)))))))
      have KR := Lib.hid (And.intro r1 (And.intro r2 (And.intro hv trivial)))
      clear xE zE oE zz7 zz8 bE l7 l8 r1 r2 r3 r4 r5 r6 r7 r8 x8 xD gE gD g8 zD bD lD w8b xC zzC gC zC bC lC t7 t8 I hv hs8
      go_upto_region 11 with (first
        | (at_builtin; first | (refine wpApp rfl (.const (.slice none 0 0)) (.tmp 44) _ rfl _ _ _ rfl rfl T7.out ?_) | (refine wpApp rfl (.const (.slice none 0 0)) (.tmp 48) _ rfl _ _ _ rfl rfl T8.out ?_)))
      clear q7 q7c q7f q8 q8c q8f T7 T8
      generalize wD.setCell ⟨D1, 8, none⟩ (.slice A8 r.hm k8) = wE at KE ⊢
      obtain ⟨xE, zE, oE, zz7, zz8, bE, l7, l8⟩ := KE.out
      have a0 := xE.c0
      have a1 := xE.c1
      have a2 := xE.c2
      have a3 := xE.c3
      have a4 := xE.c4
      have a5 := xE.c5
      have a6 := xE.c6
      have a7 := xE.c7
      have a8 := xE.c8
      simp only at a0 a1 a2 a3 a4 a5 a6 a7 a8
      have b0 := zE.c0
      have b1 := zE.c1
      have b2 := zE.c2
      have b3 := zE.c3
      have b4 := zE.c4
      have b5 := zE.c5
      have b6 := zE.c6
      have b7 := zE.c7
      have b8 := zE.c8
      have g0 := zE.fz 0
      have g1 := zE.fz 1
      have g2 := zE.fz 2
      have g3 := zE.fz 3
      have g4 := zE.fz 4
      have g5 := zE.fz 5
      have g6 := zE.fz 6
      have g7 := zE.fz 7
      have g8 := zE.fz 8
      clear xE zE oE zz7 zz8 bE l7 l8
      go_wp2
      refine bodyPost_ret (v := .agg #[.int .i64 rc.y.at_, .slice rc.y.A rc.y.n rc.y.c, .int .i64 rc.o.at_, .slice rc.o.A rc.o.n rc.o.c, .int .i64 rc.size, .int .i64 rc.mark, .slice rc.F r.fm rc.fc, .slice A7 r.rm k7, .slice A8 r.hm k8]) (by simp [results, Tryz.results9, go_sem, b0, b1, b2, b3, b4, b5, b6, b7, b8]) rfl ?_
      obtain ⟨xE, zE, oE, zz7, zz8, bE, l7, l8⟩ := KE.out
      obtain ⟨r1, r2, hv, _⟩ := KR.out
      have gF := chg9 wE D2 (.int .i64 rc.y.at_) (.slice rc.y.A rc.y.n rc.y.c) (.int .i64 rc.o.at_) (.slice rc.o.A rc.o.n rc.o.c) (.int .i64 rc.size) (.int .i64 rc.mark) (.slice rc.F r.fm rc.fc) (.slice A7 r.rm k7) (.slice A8 r.hm k8)
      have oF := dow_chg oE gF (fun k e => by omega)
      have hlen : rc.rs.length = r.fm := by rw [← oE.fm, hrc, e]
      have hff := rwf_fvs oF.f
      rw [hlen] at hff
      refine ⟨⟨rc.y, rc.o, rc.size, rc.mark, rc.F, r.fm, rc.fc, A7, r.rm, k7, A8, r.hm, k8, rc.rs⟩, rfl, ⟨oF.y, oF.o, by rw [r1]; exact hv.size, by rw [r2]; exact hv.mark, hv.wfs, hv.wfm, hff, zs_chg zz7 gF (fun k hk e => by have := l7 k hk; omega), zs_chg zz8 gF (fun k hk e => by have := l8 k hk; omega)⟩, ?_⟩
      rw [hD1.out]
      exact bE.trans (gF.toBelow (fun k e => by omega) (Nat.le_trans (Nat.le_of_lt xE.lt) (Nat.le_refl _)))
set_option maxRecDepth 100000 in
set_option maxRecDepth 100000 in
set_option maxHeartbeats 8000000 in
theorem copyDump_none {w : World} {r : DR} {d : Dmp} (h : DV w r d) (hs : Sm r) (hF : r.fm = 0) :
    Calls Tryz.prog 9 #[.agg #[.int .i64 r.y.at_, .slice r.y.A r.y.n r.y.c, .int .i64 r.o.at_, .slice r.o.A r.o.n r.o.c, .int .i64 r.size, .int .i64 r.mark, .slice r.F r.fm r.fc, .slice r.R r.rm r.rc, .slice r.H r.hm r.hc]] w (CdP w d) := by
  obtain ⟨wa, hwa⟩ : ∃ wa, wa = w.alloc (.cells #[.int .i64 r.y.at_, .slice r.y.A r.y.n r.y.c, .int .i64 r.o.at_, .slice r.o.A r.o.n r.o.c, .int .i64 r.size, .int .i64 r.mark, .slice r.F r.fm r.fc, .slice r.R r.rm r.rc, .slice r.H r.hm r.hc] 28) := ⟨_, rfl⟩
  obtain ⟨w0, hw0⟩ : ∃ w0, w0 = wa.alloc (.cells #[.int .i64 0, .slice none 0 0, .int .i64 0, .slice none 0 0, .int .i64 0, .int .i64 0, .slice none 0 0, .slice none 0 0, .slice none 0 0] 28) := ⟨_, rfl⟩
  have hba : Below w.heap.size w wa := by rw [hwa]; exact (Below.refl _ w).alloc (Nat.le_refl _) _
  have hsa : wa.heap.size = w.heap.size + 1 := by rw [hwa]; simp
  have hb0 : Below w.heap.size w w0 := by rw [hw0]; exact hba.alloc hba.size _
  have x0 : Bx w0 w.heap.size r := ⟨by rw [hw0, Below.heap_alloc _ _ _ (by omega), hwa]; exact heap_alloc_new w _⟩
  have z0 : Bx w0 (w.heap.size + 1) DR.zero := ⟨by rw [← hsa, hw0]; exact heap_alloc_new wa _⟩
  replace hF := Lib.hid hF
  go_enter Tryz.func9, Tryz.ntmps9
  go_upto_region 1 with fail
  rw [← hwa, ← hw0]
  clear hwa hw0 hba hsa
  generalize hD1 : w.heap.size = D1 at *
  generalize hD2 : D1 + 1 = D2 at *
  replace hD1 := Lib.hid hD1
  have hlt : D1 < D2 := by omega
  replace hD2 := Lib.hid hD2
  have hbv : Hid (∀ wx, Below D1 w wx → DV wx r d) := Lib.hid (fun wx hb => h.below (by rw [hD1.out]; exact hb))
  obtain ⟨A1, k1, wA, t1, zA, bA, lA⟩ := zs_copy und_ws ie_u (hbv.out _ hb0).y.ws (by have := hs.y; omega) 22
  have gA : Chg (fun _ => False) w0 wA := .below bA
  have xA := x0.chg gA (fun h => h)
  have zzA := z0.chg gA (fun h => h)
  have c1 := x0.c1
  have cA1 := xA.c1
  have fA1 := xA.fz 1
  have T1 := Lib.hid t1
  have K0 : Hid (Below D1 w w0 ∧ Bx wA D1 r ∧ Bx wA D2 DR.zero ∧ Chg (fun _ => False) w0 wA ∧ Zs .u64 wA A1 r.y.n k1 d.y.ws ∧ D2 < w0.heap.size ∧ (∀ k, A1.map (·.block) = some k → w0.heap.size ≤ k ∧ k < wA.heap.size)) := Lib.hid ⟨hb0, xA, zzA, gA, zA, z0.lt, lA⟩
  clear t1 zA bA lA gA xA zzA x0 z0 hb0
  go_upto_region 2 with (at_builtin; refine wpApp rfl (.const (.slice none 0 0)) (.tmp 7) _ rfl _ _ _ rfl rfl T1.out ?_)
  clear c1 cA1 fA1 T1
  have S2 : Hid (Below D1 w (wA.setCell ⟨D1, 1, none⟩ (.slice A1 r.y.n k1)) ∧ Bx (wA.setCell ⟨D1, 1, none⟩ (.slice A1 r.y.n k1)) D1 { r with y := ⟨r.y.at_, A1, r.y.n, k1⟩ } ∧ Bx (wA.setCell ⟨D1, 1, none⟩ (.slice A1 r.y.n k1)) D2 DR.zero ∧ FV (wA.setCell ⟨D1, 1, none⟩ (.slice A1 r.y.n k1)) ⟨r.y.at_, A1, r.y.n, k1⟩ d.y ∧ (∀ k, A1.map (·.block) = some k → D2 < k ∧ k < (wA.setCell ⟨D1, 1, none⟩ (.slice A1 r.y.n k1)).heap.size)) := Lib.hid (by
    obtain ⟨q1, q2, q3, q4, q5, q6, q7⟩ := K0.out
    have g : Chg (fun k => k = D1) wA (wA.setCell ⟨D1, 1, none⟩ (.slice A1 r.y.n k1)) := (Chg.refl (fun k => k = D1) wA).setCell (p := ⟨D1, 1, none⟩) (.inl rfl) _
    have hq := hbv.out _ q1
    refine ⟨(q1.trans (q4.toBelow (fun k h => h.elim) (Nat.le_of_lt (by omega)))).trans (g.toBelow (fun k e => by omega) (Nat.le_of_lt q2.lt)), q2.set1 _ _ _, q3.chg g (by omega), ⟨hq.y.at_, hq.y.wf, zs_chg q5 g (fun k hk e => by have := (q7 k hk).1; omega)⟩, fun k hk => ⟨by have := (q7 k hk).1; omega, by simpa using (q7 k hk).2⟩⟩)
  clear K0
  generalize wA.setCell ⟨D1, 1, none⟩ (.slice A1 r.y.n k1) = w2 at S2 ⊢
  obtain ⟨A2, k2, wB, t2, zB, bB, lB⟩ := zs_copy und_ws ie_u (hbv.out _ S2.out.1).o.ws (by have := hs.o; omega) 22
  have gB : Chg (fun _ => False) w2 wB := .below bB
  have x2 := S2.out.2.1
  have xB := x2.chg gB (fun h => h)
  have c3 := x2.c3
  have cB3 := xB.c3
  have fB3 := xB.fz 3
  have T2 := Lib.hid t2
  have K2 := Lib.hid (And.intro gB (And.intro xB (And.intro zB lB)))
  clear t2 zB bB lB gB xB x2
  go_upto_region 3 with (at_builtin; refine wpApp rfl (.const (.slice none 0 0)) (.tmp 13) _ rfl _ _ _ rfl rfl T2.out ?_)
  clear c3 cB3 fB3 T2
  have S3 : Hid (CdI w D1 D2 r d { r with y := ⟨r.y.at_, A1, r.y.n, k1⟩, o := ⟨r.o.at_, A2, r.o.n, k2⟩, F := none, fm := 0, fc := 0, rs := [] } [] ((wB.setCell ⟨D1, 3, none⟩ (.slice A2 r.o.n k2)).setCell ⟨D1, 6, none⟩ (.slice none 0 0)) ∧ (wB.setCell ⟨D1, 3, none⟩ (.slice A2 r.o.n k2)).cell? ⟨D1, 6, none⟩ = some (.slice r.F r.fm r.fc) ∧ (wB.setCell ⟨D1, 3, none⟩ (.slice A2 r.o.n k2)).frozen? ⟨D1, 6, none⟩ = false) := Lib.hid (by
    obtain ⟨q1, q2, q3, q4, q5⟩ := S2.out
    obtain ⟨p1, p2, p3, p4⟩ := K2.out
    have hq := hbv.out _ q1
    have x3 := p2.set3 A2 r.o.n k2
    have g : Chg (fun k => k = D1) wB ((wB.setCell ⟨D1, 3, none⟩ (.slice A2 r.o.n k2)).setCell ⟨D1, 6, none⟩ (.slice none 0 0)) := ((Chg.refl (fun k => k = D1) wB).setCell (p := ⟨D1, 3, none⟩) (.inl rfl) _).setCell (p := ⟨D1, 6, none⟩) (.inl rfl) _
    have hz2 := q3.lt
    refine ⟨⟨(q1.trans (p1.toBelow (fun k h => h.elim) (by omega))).trans (g.toBelow (fun k e => by omega) (Nat.le_of_lt p2.lt)), x3.set6 none 0 0 [], (q3.chg p1 (fun h => h)).chg g (by omega), hlt, fv_chg (fv_chg q4 p1 (fun _ _ h => h)) g (fun k hk e => by have := (q5 k hk).1; omega), fun k hk => ⟨(q5 k hk).1, by have h1 := (q5 k hk).2; have h2 := p1.size; simp; omega⟩,
      ⟨hq.o.at_, hq.o.wf, zs_chg p3 g (fun k hk e => by have := (p4 k hk).1; omega)⟩, fun k hk => ⟨by have := (p4 k hk).1; omega, by have h1 := (p4 k hk).2; simpa using h1⟩, rwf_nil _ _, rfl, (fun k hk => by cases hk), (fun k hk => by cases hk), rfl, rfl, rfl, rfl, rfl, rfl, rfl, rfl⟩, x3.c6, x3.fz 6⟩)
  have c6 := S3.out.2.1
  have f6 := S3.out.2.2
  replace S3 := Lib.hid S3.out.1
  clear S2 K2
  generalize wB.setCell ⟨D1, 3, none⟩ (.slice A2 r.o.n k2) = w3 at S3 c6 f6 ⊢
  have hfm : r.fm ≤ 6 := hs.fm
  go_wp2_with fail
  clear c6 f6
  go_loopw [4] (fun x wx => ∃ (i : Nat) (rc : DR), i ≤ r.fm ∧ x = .int .i64 (i : Int) ∧ CdI w D1 D2 r d rc (d.fs.take i) wx ∧ rc.fm = i) (fun x _ => r.fm - (intOf x).toNat)
  case atStart => exact ⟨0, _, Nat.zero_le _, rfl, by simpa using S3.out, rfl⟩
  case round =>
    clear S3
    obtain ⟨i, rc, hi, rfl, I, hrc⟩ := hrel
    have hv := hbv.out _ I.be
    by_cases hin : i < r.fm
    · have := hF.out
      omega
    · have e : i = r.fm := by omega
      have hd1 : decide ((i : Int) < (r.fm : Int)) = false := decide_eq_false (by omega)
      have htk : d.fs.take i = d.fs := by rw [e, ← hv.fs.lef]; exact List.take_of_length_le (Nat.le_refl _)
      rw [htk] at I
      obtain ⟨A7, k7, wC, t7, zC, bC, lC⟩ := zs_copy und_ws ie_u hv.roots (by have := hs.rm; omega) 22
      have hzl := I.z.lt
      have gC : Chg (fun _ => False) wr wC := .below bC
      have xC := I.x.chg gC (fun h => h)
      have zzC := I.z.chg gC (fun h => h)
      have w8b : Below D1 w (wC.setCell ⟨D1, 7, none⟩ (.slice A7 r.rm k7)) := (I.be.trans (gC.toBelow (fun k h => h.elim) (by omega))).setCell (p := ⟨D1, 7, none⟩) (Nat.le_refl _) _
      obtain ⟨A8, k8, wD, t8, zD, bD, lD⟩ := zs_copy und_is ie_i (hbv.out _ w8b).hs (by have := hs.hm; omega) 26
      have g8 : Chg (fun k => k = D1) wC (wC.setCell ⟨D1, 7, none⟩ (.slice A7 r.rm k7)) := (Chg.refl (fun k => k = D1) wC).setCell (p := ⟨D1, 7, none⟩) (.inl rfl) _
      have gD : Chg (fun _ => False) (wC.setCell ⟨D1, 7, none⟩ (.slice A7 r.rm k7)) wD := .below bD
      have gE : Chg (fun k => k = D1) wD (wD.setCell ⟨D1, 8, none⟩ (.slice A8 r.hm k8)) := (Chg.refl (fun k => k = D1) wD).setCell (p := ⟨D1, 8, none⟩) (.inl rfl) _
      obtain ⟨r1, r2, r3, r4, r5, r6, r7, r8⟩ := I.rest
      have x8 := xC.set7 A7 r.rm k7
      have xD := x8.chg gD (fun h => h)
      have xE := xD.set8 A8 r.hm k8
      have zE := ((zzC.chg g8 (by omega)).chg gD (fun h => h)).chg gE (by omega)
      have oE : DOw (D2 + 1) (wD.setCell ⟨D1, 8, none⟩ (.slice A8 r.hm k8)) rc d :=
        dow_chg (dow_chg (dow_chg (dow_chg ⟨I.y, fun k hk => (I.ylo k hk).1, I.o, fun k hk => (I.olo k hk).1, I.f, I.fm⟩ gC (fun _ h => h.elim)) g8 (fun k e => by omega)) gD (fun _ h => h.elim)) gE (fun k e => by omega)
      have zz7 := zs_chg (zs_chg (zs_chg zC g8 (fun k hk e => by have := (lC k hk).1; omega)) gD (fun _ _ h => h)) gE (fun k hk e => by have := (lC k hk).1; omega)
      have hs8 : D2 < (wC.setCell ⟨D1, 7, none⟩ (.slice A7 r.rm k7)).heap.size := by have := gC.size; simp; omega
      have zz8 := zs_chg zD gE (fun k hk e => by have := (lD k hk).1; omega)
      have bE : Below D1 w (wD.setCell ⟨D1, 8, none⟩ (.slice A8 r.hm k8)) := (w8b.trans (gD.toBelow (fun k h => h.elim) (by omega))).setCell (p := ⟨D1, 8, none⟩) (Nat.le_refl _) _
      have q7 : wr.cell? ⟨D1, 7, none⟩ = some (.slice r.R r.rm r.rc) := by rw [← r3, ← r4, ← r5]; exact I.x.c7
      have q7c : wC.cell? ⟨D1, 7, none⟩ = some (.slice r.R r.rm r.rc) := by rw [← r3, ← r4, ← r5]; exact xC.c7
      have q7f := xC.fz 7
      have q8 : (wC.setCell ⟨D1, 7, none⟩ (.slice A7 r.rm k7)).cell? ⟨D1, 8, none⟩ = some (.slice r.H r.hm r.hc) := by rw [← r6, ← r7, ← r8]; exact x8.c8
      have q8c : wD.cell? ⟨D1, 8, none⟩ = some (.slice r.H r.hm r.hc) := by rw [← r6, ← r7, ← r8]; exact xD.c8
      have q8f := xD.fz 8
      have T7 := Lib.hid t7
      have T8 := Lib.hid t8
      have l7 : ∀ k, A7.map (·.block) = some k → D2 < k := fun k hk => by have := (lC k hk).1; omega
      have l8 : ∀ k, A8.map (·.block) = some k → D2 < k := fun k hk => by have := (lD k hk).1; omega
      have KE := Lib.hid (And.intro xE (And.intro zE (And.intro oE (And.intro zz7 (And.intro zz8 (And.intro bE (And.intro l7 l8)))))))
      have KR := Lib.hid (And.intro r1 (And.intro r2 (And.intro hv trivial)))
      clear xE zE oE zz7 zz8 bE l7 l8 r1 r2 r3 r4 r5 r6 r7 r8 x8 xD gE gD g8 zD bD lD w8b xC zzC gC zC bC lC t7 t8 I hv hs8
      go_upto_region 11 with (first
        | (at_builtin; first | (refine wpApp rfl (.const (.slice none 0 0)) (.tmp 44) _ rfl _ _ _ rfl rfl T7.out ?_) | (refine wpApp rfl (.const (.slice none 0 0)) (.tmp 48) _ rfl _ _ _ rfl rfl T8.out ?_)))
      clear q7 q7c q7f q8 q8c q8f T7 T8
      generalize wD.setCell ⟨D1, 8, none⟩ (.slice A8 r.hm k8) = wE at KE ⊢
      obtain ⟨xE, zE, oE, zz7, zz8, bE, l7, l8⟩ := KE.out
      have a0 := xE.c0
      have a1 := xE.c1
      have a2 := xE.c2
      have a3 := xE.c3
      have a4 := xE.c4
      have a5 := xE.c5
      have a6 := xE.c6
      have a7 := xE.c7
      have a8 := xE.c8
      simp only at a0 a1 a2 a3 a4 a5 a6 a7 a8
      have b0 := zE.c0
      have b1 := zE.c1
      have b2 := zE.c2
      have b3 := zE.c3
      have b4 := zE.c4
      have b5 := zE.c5
      have b6 := zE.c6
      have b7 := zE.c7
      have b8 := zE.c8
      have g0 := zE.fz 0
      have g1 := zE.fz 1
      have g2 := zE.fz 2
      have g3 := zE.fz 3
      have g4 := zE.fz 4
      have g5 := zE.fz 5
      have g6 := zE.fz 6
      have g7 := zE.fz 7
      have g8 := zE.fz 8
      clear xE zE oE zz7 zz8 bE l7 l8
      go_wp2
      refine bodyPost_ret (v := .agg #[.int .i64 rc.y.at_, .slice rc.y.A rc.y.n rc.y.c, .int .i64 rc.o.at_, .slice rc.o.A rc.o.n rc.o.c, .int .i64 rc.size, .int .i64 rc.mark, .slice rc.F r.fm rc.fc, .slice A7 r.rm k7, .slice A8 r.hm k8]) (by simp [results, Tryz.results9, go_sem, b0, b1, b2, b3, b4, b5, b6, b7, b8]) rfl ?_
      obtain ⟨xE, zE, oE, zz7, zz8, bE, l7, l8⟩ := KE.out
      obtain ⟨r1, r2, hv, _⟩ := KR.out
      have gF := chg9 wE D2 (.int .i64 rc.y.at_) (.slice rc.y.A rc.y.n rc.y.c) (.int .i64 rc.o.at_) (.slice rc.o.A rc.o.n rc.o.c) (.int .i64 rc.size) (.int .i64 rc.mark) (.slice rc.F r.fm rc.fc) (.slice A7 r.rm k7) (.slice A8 r.hm k8)
      have oF := dow_chg oE gF (fun k e => by omega)
      have hlen : rc.rs.length = r.fm := by rw [← oE.fm, hrc, e]
      have hff := rwf_fvs oF.f
      rw [hlen] at hff
      refine ⟨⟨rc.y, rc.o, rc.size, rc.mark, rc.F, r.fm, rc.fc, A7, r.rm, k7, A8, r.hm, k8, rc.rs⟩, rfl, ⟨oF.y, oF.o, by rw [r1]; exact hv.size, by rw [r2]; exact hv.mark, hv.wfs, hv.wfm, hff, zs_chg zz7 gF (fun k hk e => by have := l7 k hk; omega), zs_chg zz8 gF (fun k hk e => by have := l8 k hk; omega)⟩, ?_⟩
      rw [hD1.out]
      exact bE.trans (gF.toBelow (fun k e => by omega) (Nat.le_trans (Nat.le_of_lt xE.lt) (Nat.le_refl _)))
set_option maxRecDepth 100000 in
theorem copyDump_any {w : World} {r : DR} {d : Dmp} (h : DV w r d) (hs : Sm r) :
    Calls Tryz.prog 9 #[.agg #[.int .i64 r.y.at_, .slice r.y.A r.y.n r.y.c, .int .i64 r.o.at_, .slice r.o.A r.o.n r.o.c, .int .i64 r.size, .int .i64 r.mark, .slice r.F r.fm r.fc, .slice r.R r.rm r.rc, .slice r.H r.hm r.hc]] w (CdP w d) := by
  by_cases h0 : r.fm = 0
  · exact copyDump_none h hs h0
  · obtain ⟨b, o, hA, _⟩ := h.fs.some (by omega)
    exact copyDump_some h hs hA
end Go.Proofs.YtejmmjedognaaaaGreat

namespace Go.Proofs.YtejmmjedognaaaaGreat
open Go.RowKit
open St

/-- The words from an address on. -/
def atL : List Frg → Int → List Int
  | [], _ => []
  | f :: fs, a => if 0 ≤ f.at_ ∧ f.at_ ≤ a ∧ a - f.at_ < (f.ws.length : Int) then f.ws.drop (a - f.at_).toNat else atL fs a
def inF (f : Frg) (a : Int) : Prop := 0 ≤ f.at_ ∧ f.at_ ≤ a ∧ a - f.at_ < (f.ws.length : Int)
set_option maxRecDepth 100000 in
theorem atL_step {fs : List Frg} {i : Nat} {a : Int} (h : i < fs.length) : (inF (fs.getD i Frg.zero) a → atL (fs.drop i) a = (fs.getD i Frg.zero).ws.drop (a - (fs.getD i Frg.zero).at_).toNat) ∧ (¬ inF (fs.getD i Frg.zero) a → atL (fs.drop i) a = atL (fs.drop (i + 1)) a) := by
  have e : fs.drop i = fs.getD i Frg.zero :: fs.drop (i + 1) := by
    rw [List.drop_eq_getElem_cons h]
    simp [h]
  rw [e]
  generalize fs.getD i Frg.zero = f
  refine ⟨fun hf => ?_, fun hf => ?_⟩
  · show (if 0 ≤ f.at_ ∧ f.at_ ≤ a ∧ a - f.at_ < (f.ws.length : Int) then f.ws.drop (a - f.at_).toNat else atL (fs.drop (i + 1)) a) = _
    exact if_pos hf
  · show (if 0 ≤ f.at_ ∧ f.at_ ≤ a ∧ a - f.at_ < (f.ws.length : Int) then f.ws.drop (a - f.at_).toNat else atL (fs.drop (i + 1)) a) = _
    exact if_neg hf

/-- What Regions answers. -/
def RgP (w : World) (r : DR) (d : Dmp) (e : Ending) (w' : World) : Prop :=
  ∃ A c, e = .returned (.slice A (r.fm + 2) c) ∧ FVs w' A (r.fm + 2) c (r.y :: r.o :: r.rs) (d.y :: d.o :: d.fs) ∧ Below w.heap.size w w'

set_option maxRecDepth 100000 in
theorem fvs_cells {w : World} {A : Option Addr} {m c : Nat} {rs : List FR} {fs : List Frg} {b o : Nat} (h : FVs w A m c rs fs) (hA : A = some ⟨b, o, none⟩) : ∀ j u, (frcs rs)[j]? = some u → w.cell? ⟨b, o + j, none⟩ = some u := by
  subst hA
  intro j u hu
  have hj : j < m * 2 := by
    have := (List.getElem?_eq_some_iff.1 hu).1
    rw [frcs_len, h.len] at this
    exact this
  obtain ⟨b', o', e, _, hc⟩ := h.el (by omega)
  cases e
  have h1 := hc (j / 2) (by omega) (j % 2) (by omega)
  rw [show o + j / 2 * 2 + j % 2 = o + j by omega] at h1
  rw [h1, ← frcs_get rs (j / 2) (j % 2) (by rw [h.len]; omega) (by omega), show j / 2 * 2 + j % 2 = j by omega]
  exact hu

set_option maxRecDepth 100000 in
/-- Regions are put behind two. -/
theorem rg_app {w : World} {g : Nat} {r0 r1 : FR} {A : Option Addr} {m c : Nat} {rs : List FR} {fs : List Frg} (hg : w.heap[g]? = some (.cells #[.int .i64 r0.at_, .slice r0.A r0.n r0.c, .int .i64 r1.at_, .slice r1.A r1.n r1.c] 24 (0, 0))) (h : FVs w A m c rs fs) (hm : m ≤ 1000) (ty : TypeId) :
    ∃ A' c' w', (Builtin.append_ #[25, 25] ty #[.slice (some ⟨g, 0, none⟩) 2 2, .slice A m c]).run Tryz.prog w = .ok (.slice A' (m + 2) c') w' ∧ w'.ownsRow g 24 2 (.slice A' (m + 2) c') (m + 2) (frcs (r0 :: r1 :: rs)) ∧ w.grownBy w' (some g) := by
  obtain ⟨i, hi, hz, hs, hb⟩ := info_fr'
  have hrow : w.ownsRow g 24 2 (.slice (some ⟨g, 0, none⟩) 2 2) 2 (frcs [r0, r1]) :=
    ⟨rfl, .inr ⟨g, 2, _, rfl, Nat.le_refl _, hg, Nat.le_refl _, by unfold maxLen; omega, rfl, rfl⟩⟩
  have hgl : g ≤ w.heap.size := Nat.le_of_lt (Array.getElem?_eq_some_iff.1 hg).1
  by_cases hA : A = none ∧ m = 0 ∧ c = 0
  · obtain ⟨rfl, rfl, rfl⟩ := hA
    have hl : rs = [] := List.eq_nil_of_length_eq_zero h.len
    subst hl
    exact ⟨some ⟨g, 0, none⟩, 2, w, run_append_owned_none w g 25 ty 24 i 2 und_fs hi _ 2 _ hrow, hrow, ⟨rfl, rfl, rfl, Nat.le_refl _, fun _ _ _ => rfl⟩⟩
  · have key : ∀ a : Addr, A = some a → (∀ j u, (frcs rs)[j]? = some u → w.cell? (a.add j) = some u) → ∃ A' c' w', (Builtin.append_ #[25, 25] ty #[.slice (some ⟨g, 0, none⟩) 2 2, .slice A m c]).run Tryz.prog w = .ok (.slice A' (m + 2) c') w' ∧ w'.ownsRow g 24 2 (.slice A' (m + 2) c') (m + 2) (frcs (r0 :: r1 :: rs)) ∧ w.grownBy w' (some g) := by
      intro a ha hcell
      obtain ⟨v', w', hrun, ho, hgr, _, _⟩ := run_append_own_at (P := Tryz.prog) w g 25 ty 24 i (.agg #[.int .i64 0, .slice none 0 0]) 2 32 und_fs hi hz hs hb rfl (by decide) (.slice (some ⟨g, 0, none⟩) 2 2) 2 (frcs [r0, r1]) hrow a m c (frcs rs) (by rw [frcs_len, h.len]) hcell (frcs_one rs) (by unfold maxLen; omega) (by omega) hgl
      have hform : ∃ A' c', v' = .slice A' (2 + m) c' := by
        rcases ho.2 with ⟨_, e⟩ | ⟨g, cap, cur, rfl, _⟩
        · omega
        · exact ⟨_, _, rfl⟩
      obtain ⟨A', c', rfl⟩ := hform
      rw [ha]
      rw [Nat.add_comm 2 m] at hrun ho
      exact ⟨A', c', w', hrun, ho, hgr⟩
    by_cases h0 : m = 0
    · cases hAA : A with
      | none =>
        have hl : rs = [] := List.eq_nil_of_length_eq_zero (by rw [h.len, h0])
        subst hl
        subst h0
        refine ⟨some ⟨g, 0, none⟩, 2, w, ?_, hrow, ⟨rfl, rfl, rfl, Nat.le_refl _, fun _ _ _ => rfl⟩⟩
        simp [Builtin.append_, run_underlying und_fs, sizeOf, typeInfo, hi, Builtin.lenOf, Builtin.firstCells, storeCells]
      | some a =>
        have hl : rs = [] := List.eq_nil_of_length_eq_zero (by rw [h.len, h0])
        rw [← hAA]
        exact key a hAA (fun j u hu => by rw [hl] at hu; simp [frcs] at hu)
    · obtain ⟨b, o, hAA, _⟩ := h.some (by omega)
      exact key ⟨b, o, none⟩ hAA (fun j u hu => by rw [Lk.addN]; exact fvs_cells h hAA j u hu)

set_option maxRecDepth 100000 in
set_option maxRecDepth 100000 in
set_option maxHeartbeats 2000000 in
theorem regions12_any {w : World} {r : DR} {d : Dmp} (h : DV w r d) (hm : r.fm ≤ 1000) :
    Calls Tryz.prog 69 #[.agg #[.int .i64 r.y.at_, .slice r.y.A r.y.n r.y.c, .int .i64 r.o.at_, .slice r.o.A r.o.n r.o.c, .int .i64 r.size, .int .i64 r.mark, .slice r.F r.fm r.fc, .slice r.R r.rm r.rc, .slice r.H r.hm r.hc]] w (RgP w r d) := by
  obtain ⟨wa, hwa⟩ : ∃ wa, wa = w.alloc (.cells #[.int .i64 r.y.at_, .slice r.y.A r.y.n r.y.c, .int .i64 r.o.at_, .slice r.o.A r.o.n r.o.c, .int .i64 r.size, .int .i64 r.mark, .slice r.F r.fm r.fc, .slice r.R r.rm r.rc, .slice r.H r.hm r.hc] 28) := ⟨_, rfl⟩
  have hba : Below w.heap.size w wa := by rw [hwa]; exact (Below.refl _ w).alloc (Nat.le_refl _) _
  have xa : Bx wa w.heap.size r := ⟨by rw [hwa]; exact heap_alloc_new w _⟩
  have hbb : Below wa.heap.size wa (wa.alloc (.cells #[.int .i64 r.y.at_, .slice r.y.A r.y.n r.y.c, .int .i64 r.o.at_, .slice r.o.A r.o.n r.o.c] 24)) := (Below.refl _ wa).alloc (Nat.le_refl _) _
  have hv := h.below (hba.trans (hbb.mono hba.size))
  obtain ⟨A', c', w', hrun, ho, hg⟩ := rg_app (g := wa.heap.size) (heap_alloc_new wa _) hv.fs hm 25
  have hbe : Below w.heap.size w w' := (hba.trans (hbb.mono hba.size)).trans ⟨hg.os, hg.tape, hg.output, hg.size, fun k hk => hg.block k (by have := hba.size; simp; omega) (fun e => by injection e with e; have := hba.size; omega)⟩
  have hbe2 : Below (wa.alloc (.cells #[.int .i64 r.y.at_, .slice r.y.A r.y.n r.y.c, .int .i64 r.o.at_, .slice r.o.A r.o.n r.o.c] 24)).heap.size w w' → True := fun _ => trivial
  have hv' := h.below hbe
  have HF : Hid (FVs w' A' (r.fm + 2) c' (r.y :: r.o :: r.rs) (d.y :: d.o :: d.fs)) := Lib.hid (by
    have hfv : ∀ i, i < r.fm + 2 → FV w' ((r.y :: r.o :: r.rs).getD i FR.zero) ((d.y :: d.o :: d.fs).getD i Frg.zero) := fun i hi => by
      match i, hi with
      | 0, _ => exact hv'.y
      | 1, _ => exact hv'.o
      | i + 2, hi => simpa using hv'.fs.fv i (by omega)
    rcases ho.2 with ⟨_, e⟩ | ⟨g, cap, cur, hv2, _, hgg, hnc, hcm, _⟩
    · omega
    · injection hv2 with e1 _ e3
      subst e1 e3
      refine ⟨by simp [h.fs.len], by simp [h.fs.lef], hnc, hcm, fun _ => ⟨g, 0, rfl, (Array.getElem?_eq_some_iff.1 hgg).1, fun i hi j hj => ?_⟩, hfv⟩
      rw [Nat.zero_add, World.ownsRow.cellAt ho _ (by omega)]
      exact frcs_get _ i j (by simp [h.fs.len]; omega) hj)
  have T1 := Lib.hid hrun
  have HB := Lib.hid hbe
  have c0 := xa.c0
  have c1 := xa.c1
  have c2 := xa.c2
  have c3 := xa.c3
  have c6 := (xa.below hbb xa.lt).c6
  clear hrun ho hg hbe hv hv' hbb hbe2 xa h
  go_enter Tryz.func69, Tryz.ntmps69
  go_upto_region 1 with fail
  rw [← hwa]
  clear hwa
  go_wp2_with (at_builtin; refine wpApp rfl (.tmp 7) (.tmp 9) _ rfl _ _ _ rfl rfl T1.out ?_)
  go_ret
  exact ⟨A', c', rfl, HF.out, HB.out⟩
end Go.Proofs.YtejmmjedognaaaaGreat
