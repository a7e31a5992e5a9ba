/-
  DUMPS: CopyDump.
  DUMPS: CopyDump's walk.
  DUMPS: CopyDump's walk.
-/
import Derived.Test.YtejmmjedognaaaaGreatMv2
namespace Go.Proofs.YtejmmjedognaaaaGreat
open Go.RowKit
open St

def DR.zero : DR := ⟨FR.zero, FR.zero, 0, 0, none, 0, 0, none, 0, 0, none, 0, 0, []⟩
set_option maxRecDepth 100000 in
theorem Bx.fz {w : World} {D : Nat} {r : DR} (h : Bx w D r) (i : Nat) : w.frozen? ⟨D, i, none⟩ = false := frozen_of_row w D i _ _ h.blk
set_option maxRecDepth 100000 in
theorem Bx.set1 {w : World} {D : Nat} {r : DR} (h : Bx w D r) (A : Option Addr) (n c : Nat) : Bx (w.setCell ⟨D, 1, none⟩ (.slice A n c)) D { r with y := ⟨r.y.at_, A, n, c⟩ } :=
  ⟨by rw [heap_setCell_same w D 1 _ _ _ h.blk]; simp⟩
set_option maxRecDepth 100000 in
theorem Bx.set3 {w : World} {D : Nat} {r : DR} (h : Bx w D r) (A : Option Addr) (n c : Nat) : Bx (w.setCell ⟨D, 3, none⟩ (.slice A n c)) D { r with o := ⟨r.o.at_, A, n, c⟩ } :=
  ⟨by rw [heap_setCell_same w D 3 _ _ _ h.blk]; simp⟩
set_option maxRecDepth 100000 in
theorem Bx.set6 {w : World} {D : Nat} {r : DR} (h : Bx w D r) (A : Option Addr) (n c : Nat) (rs : List FR) : Bx (w.setCell ⟨D, 6, none⟩ (.slice A n c)) D { r with F := A, fm := n, fc := c, rs := rs } :=
  ⟨by rw [heap_setCell_same w D 6 _ _ _ h.blk]; simp⟩
set_option maxRecDepth 100000 in
theorem Bx.set7 {w : World} {D : Nat} {r : DR} (h : Bx w D r) (A : Option Addr) (n c : Nat) : Bx (w.setCell ⟨D, 7, none⟩ (.slice A n c)) D { r with R := A, rm := n, rc := c } :=
  ⟨by rw [heap_setCell_same w D 7 _ _ _ h.blk]; simp⟩
set_option maxRecDepth 100000 in
theorem Bx.set8 {w : World} {D : Nat} {r : DR} (h : Bx w D r) (A : Option Addr) (n c : Nat) : Bx (w.setCell ⟨D, 8, none⟩ (.slice A n c)) D { r with H := A, hm := n, hc := c } :=
  ⟨by rw [heap_setCell_same w D 8 _ _ _ h.blk]; simp⟩
set_option maxRecDepth 100000 in
theorem Bx.chg {w w' : World} {D : Nat} {r : DR} {K : Nat → Prop} (h : Bx w D r) (hc : Chg K w w') (hk : ¬ K D) : Bx w' D r := ⟨(hc.block D h.lt hk).trans h.blk⟩

/-- The regions' cells. -/
def frcs : List FR → List Value
  | [] => []
  | r :: L => .int .i64 r.at_ :: .slice r.A r.n r.c :: frcs L
set_option maxRecDepth 100000 in
theorem frcs_len (L : List FR) : (frcs L).length = L.length * 2 := by
  induction L with
  | nil => rfl
  | cons a L ih => simp only [frcs, List.length_cons, ih]; omega
set_option maxRecDepth 100000 in
theorem frcs_app (L M : List FR) : frcs (L ++ M) = frcs L ++ frcs M := by
  induction L with
  | nil => rfl
  | cons a L ih => simp only [List.cons_append, frcs, ih]
set_option maxRecDepth 100000 in
theorem frcs_get (L : List FR) (i j : Nat) (h : i < L.length) (hj : j < 2) : (frcs L)[i * 2 + j]? = (L.getD i FR.zero).cells[j]? := by
  induction L generalizing i with
  | nil => simp at h
  | cons a L ih =>
    cases i with
    | zero =>
      match j, hj with
      | 0, _ => simp [frcs, FR.cells]
      | 1, _ => simp [frcs, FR.cells]
    | succ i =>
      have := ih i (by simpa using h)
      rw [show (i + 1) * 2 + j = (i * 2 + j) + 2 by omega]
      simpa [frcs] using this
set_option maxRecDepth 100000 in
theorem frcs_one (L : List FR) : ∀ u ∈ frcs L, u.oneCell' = true := by
  induction L with
  | nil => intro u h; simp [frcs] at h
  | cons a L ih =>
    intro u h
    simp only [frcs, List.mem_cons] at h
    rcases h with rfl | rfl | h
    · rfl
    · rfl
    · exact ih u h

/-- A row of regions of one's own, at most so far down. -/
structure Rwf (w : World) (B : Nat) (A : Option Addr) (c : Nat) (rs : List FR) (fs : List Frg) : Prop where
  lef : fs.length = rs.length
  row : w.ownsRow B 24 2 (.slice A rs.length c) rs.length (frcs rs)
  fv : ∀ i, i < rs.length → FV w (rs.getD i FR.zero) (fs.getD i Frg.zero) ∧ ∀ k, (rs.getD i FR.zero).A.map (·.block) = some k → B ≤ k ∧ k < w.heap.size
set_option maxRecDepth 100000 in
theorem rwf_nil (w : World) (B : Nat) : Rwf w B none 0 [] [] := ⟨rfl, World.ownsRow_nil _ _ _ _, fun i h => by simp at h⟩
set_option maxRecDepth 100000 in
theorem rwf_lo {w : World} {B : Nat} {A : Option Addr} {c : Nat} {rs : List FR} {fs : List Frg} (h : Rwf w B A c rs fs) {k : Nat} (hk : A.map (·.block) = some k) : B ≤ k ∧ k < w.heap.size := by
  rcases h.row.2 with ⟨h0, _⟩ | ⟨g, cap, cur, hv, hb, hg, _⟩
  · injection h0 with e1 _ _
    rw [e1] at hk
    cases hk
  · injection hv with e1 _ _
    rw [e1] at hk
    cases hk
    exact ⟨hb, (Array.getElem?_eq_some_iff.1 hg).1⟩
set_option maxRecDepth 100000 in
theorem rwf_chg {w w' : World} {B : Nat} {A : Option Addr} {c : Nat} {rs : List FR} {fs : List Frg} {K : Nat → Prop} (h : Rwf w B A c rs fs) (hc : Chg K w w') (hk : ∀ k, K k → k < B) : Rwf w' B A c rs fs := by
  refine ⟨h.lef, ⟨h.row.1, ?_⟩, fun i hi => ⟨fv_chg (h.fv i hi).1 hc (fun k e e2 => by have := (h.fv i hi).2 k e; have := hk k e2; omega), fun k e => ⟨((h.fv i hi).2 k e).1, Nat.lt_of_lt_of_le ((h.fv i hi).2 k e).2 hc.size⟩⟩⟩
  rcases h.row.2 with h0 | ⟨g, cap, cur, hv, hb, hg, rest⟩
  · exact .inl h0
  · refine .inr ⟨g, cap, cur, hv, hb, ?_, rest⟩
    exact (hc.block g (Array.getElem?_eq_some_iff.1 hg).1 (fun e => by have := hk g e; omega)).trans hg
set_option maxRecDepth 100000 in
theorem rwf_fvs {w : World} {B : Nat} {A : Option Addr} {c : Nat} {rs : List FR} {fs : List Frg} (h : Rwf w B A c rs fs) : FVs w A rs.length c rs fs := by
  rcases h.row.2 with ⟨h0, h1⟩ | ⟨g, cap, cur, hv, hb, hg, hnc, hcm, _⟩
  · injection h0 with e1 e2 e3
    exact ⟨rfl, h.lef, by omega, by rw [e3]; exact Nat.zero_le _, fun hn => by omega, fun i hi => (h.fv i hi).1⟩
  · injection hv with e1 _ e3
    subst e1 e3
    refine ⟨rfl, h.lef, hnc, hcm, fun hn => ⟨g, 0, rfl, (Array.getElem?_eq_some_iff.1 hg).1, fun i hi j hj => ?_⟩, fun i hi => (h.fv i hi).1⟩
    rw [Nat.zero_add, World.ownsRow.cellAt h.row _ (by omega)]
    exact frcs_get rs i j hi hj
set_option maxRecDepth 100000 in
/-- One more region. -/
theorem rwf_app {w : World} {B : Nat} {A : Option Addr} {c : Nat} {rs : List FR} {fs : List Frg} (h : Rwf w B A c rs fs) (hB : B ≤ w.heap.size) (hn : rs.length ≤ 1000) (g0 : Nat) (r : FR) (f : Frg) (hf : FV w r f) (hfl : ∀ k, r.A.map (·.block) = some k → B ≤ k ∧ k < w.heap.size)
    (hd : ∀ k, A.map (·.block) = some k → (∀ i, i < rs.length → (rs.getD i FR.zero).A.map (·.block) ≠ some k) ∧ r.A.map (·.block) ≠ some k)
    (h0 : w.cell? ⟨g0, 0, none⟩ = some (.int .i64 r.at_)) (h1 : w.cell? ⟨g0, 1, none⟩ = some (.slice r.A r.n r.c)) (ty : TypeId) :
    ∃ A' c' w', (Builtin.append_ #[25, 25] ty #[.slice A rs.length c, .slice (some ⟨g0, 0, none⟩) 1 1]).run Tryz.prog w = .ok (.slice A' (rs.length + 1) c') w' ∧ Rwf w' B A' c' (rs ++ [r]) (fs ++ [f]) ∧ Chg (fun k => A.map (·.block) = some k) w w' ∧
      (∀ k, A'.map (·.block) = some k → A.map (·.block) = some k ∨ k = w.heap.size) := by
  obtain ⟨i, hi, hz, hs, hb⟩ := info_fr'
  obtain ⟨v', w', hrun, ho, hg, _, hloc⟩ := run_append_own_at (P := Tryz.prog) w B 25 ty 24 i (.agg #[.int .i64 0, .slice none 0 0]) 2 32 und_fs hi hz hs hb rfl (by decide) (.slice A rs.length c) rs.length (frcs rs) h.row ⟨g0, 0, none⟩ 1 1 (frcs [r]) rfl (by
    intro j u hu
    rw [Lk.addN, Nat.zero_add]
    match j, hu with
    | 0, hu => simp [frcs] at hu; rw [← hu]; exact h0
    | 1, hu => simp [frcs] at hu; rw [← hu]; exact h1
    | j + 2, hu => simp [frcs] at hu) (frcs_one _) (by unfold maxLen; omega) (by omega) hB
  have hform : ∃ A' c', v' = .slice A' (rs.length + 1) c' := by
    rcases ho.2 with ⟨_, e⟩ | ⟨g, cap, cur, rfl, _⟩
    · omega
    · exact ⟨_, _, rfl⟩
  obtain ⟨A', c', rfl⟩ := hform
  rw [own_of] at hg hloc
  rw [own_of] at hloc
  have hc : Chg (fun k => A.map (·.block) = some k) w w' := Chg.grown hg (fun k e => e)
  refine ⟨A', c', w', hrun, ⟨by simp [h.lef], ?_, fun j hj => ?_⟩, hc, fun k hk => ?_⟩
  · rw [List.length_append, frcs_app]
    exact ho
  · rw [List.length_append, List.length_singleton] at hj
    by_cases e : j < rs.length
    · have e1 : (rs ++ [r]).getD j FR.zero = rs.getD j FR.zero := by simp [List.getD_eq_getElem?_getD, List.getElem?_append_left e]
      have e2 : (fs ++ [f]).getD j Frg.zero = fs.getD j Frg.zero := by simp [List.getD_eq_getElem?_getD, List.getElem?_append_left (show j < fs.length by rw [h.lef]; exact e)]
      rw [e1, e2]
      exact ⟨fv_chg (h.fv j e).1 hc (fun k hk e3 => (hd k e3).1 j e hk), fun k hk => ⟨((h.fv j e).2 k hk).1, Nat.lt_of_lt_of_le ((h.fv j e).2 k hk).2 hc.size⟩⟩
    · have ej : j = rs.length := by omega
      subst ej
      have e1 : (rs ++ [r]).getD rs.length FR.zero = r := by simp [List.getD_eq_getElem?_getD]
      have e2 : (fs ++ [f]).getD rs.length Frg.zero = f := by rw [← h.lef]; simp [List.getD_eq_getElem?_getD]
      rw [e1, e2]
      exact ⟨fv_chg hf hc (fun k hk e3 => (hd k e3).2 hk), fun k hk => ⟨(hfl k hk).1, Nat.lt_of_lt_of_le (hfl k hk).2 hc.size⟩⟩
  · rcases hloc with e | e
    · rw [e] at hk; exact .inl hk
    · rw [e] at hk
      cases hk
      exact .inr rfl
end Go.Proofs.YtejmmjedognaaaaGreat

namespace Go.Proofs.YtejmmjedognaaaaGreat
open Go.RowKit
open St

/-- A copy that is being made: the regions done. -/
structure CdI (w : World) (D1 D2 : Nat) (r : DR) (d : Dmp) (rc : DR) (fs : List Frg) (wx : World) : Prop where
  be : Below D1 w wx
  x : Bx wx D1 rc
  z : Bx wx D2 DR.zero
  lt : D1 < D2
  y : FV wx rc.y d.y
  ylo : ∀ k, rc.y.A.map (·.block) = some k → D2 < k ∧ k < wx.heap.size
  o : FV wx rc.o d.o
  olo : ∀ k, rc.o.A.map (·.block) = some k → D2 < k ∧ k < wx.heap.size
  f : Rwf wx (D2 + 1) rc.F rc.fc rc.rs fs
  fm : rc.fm = rc.rs.length
  dis : ∀ k, rc.F.map (·.block) = some k → ∀ i, i < rc.rs.length → (rc.rs.getD i FR.zero).A.map (·.block) ≠ some k
  disy : ∀ k, rc.F.map (·.block) = some k → rc.y.A.map (·.block) ≠ some k ∧ rc.o.A.map (·.block) ≠ some k
  rest : rc.size = r.size ∧ rc.mark = r.mark ∧ rc.R = r.R ∧ rc.rm = r.rm ∧ rc.rc = r.rc ∧ rc.H = r.H ∧ rc.hm = r.hm ∧ rc.hc = r.hc
set_option maxRecDepth 100000 in
theorem CdI.drewN {w wx : World} {D1 D2 : Nat} {r : DR} {d : Dmp} {rc : DR} {fs : List Frg} (h : CdI w D1 D2 r d rc fs wx) (q : Nat) : CdI w D1 D2 r d rc fs (wx.drewN q) :=
  ⟨⟨h.be.os, h.be.tape, h.be.output, h.be.size, h.be.block⟩, h.x.drewN q, h.z.drewN q, h.lt, h.y.drewN q, h.ylo, h.o.drewN q, h.olo, ⟨h.f.lef, h.f.row, fun i hi => ⟨(h.f.fv i hi).1.drewN q, (h.f.fv i hi).2⟩⟩, h.fm, h.dis, h.disy, h.rest⟩

/-- One more region is laid: what the two appends and the store leave. -/
def CpP (w : World) (D1 D2 : Nat) (r : DR) (d : Dmp) (rc : DR) (fs : List Frg) (wx : World) (fr : FR) (A4 : Option Addr) (c4 : Nat) (w4 : World) (A6 : Option Addr) (c6 : Nat) (w6 : World) (f : Frg) : Prop :=
  (Builtin.append_ #[22, 22] 22 #[.slice none 0 0, .slice fr.A fr.n fr.c]).run Tryz.prog wx = .ok (.slice A4 fr.n c4) w4 ∧
  (Builtin.append_ #[25, 25] 25 #[.slice rc.F rc.fm rc.fc, .slice (some ⟨w4.heap.size, 0, none⟩) 1 1]).run Tryz.prog (w4.alloc (.cells #[.int .i64 fr.at_, .slice A4 fr.n c4] 24)) = .ok (.slice A6 (rc.fm + 1) c6) w6 ∧
  ((Bx w4 D1 rc ∧ Below D1 w w4) ∧ Bx w6 D1 rc) ∧
  CdI w D1 D2 r d { rc with F := A6, fm := rc.fm + 1, fc := c6, rs := rc.rs ++ [⟨fr.at_, A4, fr.n, c4⟩] } (fs ++ [f]) (w6.setCell ⟨D1, 6, none⟩ (.slice A6 (rc.fm + 1) c6))
set_option maxRecDepth 100000 in
theorem cp_prep {w wx : World} {D1 D2 : Nat} {r : DR} {d : Dmp} {rc : DR} {fs : List Frg} (h : CdI w D1 D2 r d rc fs wx) (hn : rc.rs.length ≤ 1000) (fr : FR) (f : Frg) (hf : FV wx fr f) (hfn : fr.n ≤ 1000) :
    ∃ A4 c4 w4 A6 c6 w6, CpP w D1 D2 r d rc fs wx fr A4 c4 w4 A6 c6 w6 f := by
  obtain ⟨A4, c4, w4, run4, z4, b4, l4⟩ := zs_copy und_ws ie_u hf.ws (by omega) 22
  have hz1 := h.x.lt
  have hz2 := h.z.lt
  have hlt := h.lt
  have k4 : Chg (fun _ => False) wx w4 := .below b4
  have b5 : Below w4.heap.size w4 (w4.alloc (.cells #[.int .i64 fr.at_, .slice A4 fr.n c4] 24)) := (Below.refl _ w4).alloc (Nat.le_refl _) _
  have k5 : Chg (fun _ => False) wx (w4.alloc (.cells #[.int .i64 fr.at_, .slice A4 fr.n c4] 24)) := k4.trans (.below b5) (fun _ _ h => h)
  have f5 := rwf_chg h.f k5 (fun k h => h.elim)
  have hsz : D2 + 1 ≤ (w4.alloc (.cells #[.int .i64 fr.at_, .slice A4 fr.n c4] 24)).heap.size := Nat.le_trans hz2 k5.size
  have v5 : FV (w4.alloc (.cells #[.int .i64 fr.at_, .slice A4 fr.n c4] 24)) ⟨fr.at_, A4, fr.n, c4⟩ f := ⟨hf.at_, hf.wf, z4.below b5⟩
  have hcell : ∀ j, j < 2 → (w4.alloc (.cells #[.int .i64 fr.at_, .slice A4 fr.n c4] 24)).cell? ⟨w4.heap.size, j, none⟩ = (#[Value.int .i64 fr.at_, .slice A4 fr.n c4] : Array Value)[j]? := fun j hj => cell_of_row _ w4.heap.size j _ _ (0, 0) (heap_alloc_new w4 _)
  obtain ⟨A6, c6, w6, run6, f6, k6, l6⟩ := rwf_app f5 hsz hn w4.heap.size ⟨fr.at_, A4, fr.n, c4⟩ f v5 (fun k hk => ⟨by have := l4 k hk; omega, Nat.lt_of_lt_of_le (l4 k hk).2 b5.size⟩) (fun k hk => ⟨fun i hi => h.dis k hk i hi, fun e => by
    have h1 := l4 k e
    have h2 := (rwf_lo h.f hk).2
    omega⟩) (hcell 0 (by omega)) (hcell 1 (by omega)) 25
  have hA : ∀ k, rc.F.map (·.block) = some k → D2 < k := fun k hk => (rwf_lo h.f hk).1
  have nD1 : ¬ (fun k => rc.F.map (·.block) = some k) D1 := fun e => by have := hA D1 e; omega
  have nD2 : ¬ (fun k => rc.F.map (·.block) = some k) D2 := fun e => by have := hA D2 e; omega
  have x4 := h.x.chg k4 (fun h => h)
  have k56 : Chg (fun k => rc.F.map (·.block) = some k) wx w6 := (k5.mono (fun _ _ h => h.elim)).trans k6 (fun _ _ h => h)
  have x6 := h.x.chg k56 nD1
  have z6 := h.z.chg k56 nD2
  have k7 : Chg (fun k => k = D1) w6 (w6.setCell ⟨D1, 6, none⟩ (.slice A6 (rc.fm + 1) c6)) := (Chg.refl (fun k => k = D1) w6).setCell (p := ⟨D1, 6, none⟩) (.inl rfl) _
  rw [← h.fm] at run6
  refine ⟨A4, c4, w4, A6, c6, w6, run4, run6, ⟨⟨x4, h.be.trans (b4.mono (by omega))⟩, x6⟩, ?_⟩
  have hsz6 : (w6.setCell ⟨D1, 6, none⟩ (.slice A6 (rc.fm + 1) c6)).heap.size = w6.heap.size := by simp
  have y6 := fv_chg h.y k56 (fun k hk e => (h.disy k e).1 hk)
  have o6 := fv_chg h.o k56 (fun k hk e => (h.disy k e).2 hk)
  have hln : (rc.rs ++ [(⟨fr.at_, A4, fr.n, c4⟩ : FR)]).length = rc.rs.length + 1 := by simp
  refine ⟨h.be.trans ((k56.toBelow (fun k e => by have := hA k e; omega) (Nat.le_of_lt hz1)).trans (k7.toBelow (fun k e => by omega) (Nat.le_trans (Nat.le_of_lt hz1) k56.size))), x6.set6 A6 (rc.fm + 1) c6 (rc.rs ++ [⟨fr.at_, A4, fr.n, c4⟩]), z6.chg k7 (by omega), h.lt, fv_chg y6 k7 (fun k hk e => by have := (h.ylo k hk).1; omega), fun k hk => ⟨(h.ylo k hk).1, by rw [hsz6]; exact Nat.lt_of_lt_of_le (h.ylo k hk).2 k56.size⟩,
    fv_chg o6 k7 (fun k hk e => by have := (h.olo k hk).1; omega), fun k hk => ⟨(h.olo k hk).1, by rw [hsz6]; exact Nat.lt_of_lt_of_le (h.olo k hk).2 k56.size⟩, rwf_chg f6 k7 (fun k e => by omega), by simp [h.fm], fun k hk i hi => ?_, fun k hk => ?_, h.rest⟩
  · rw [hln] at hi
    by_cases e : i < rc.rs.length
    · have e1 : (rc.rs ++ [(⟨fr.at_, A4, fr.n, c4⟩ : FR)]).getD i FR.zero = rc.rs.getD i FR.zero := by simp [List.getD_eq_getElem?_getD, List.getElem?_append_left e]
      rw [e1]
      rcases l6 k hk with e2 | e2
      · exact h.dis k e2 i e
      · intro e3
        have := ((h.f.fv i e).2 k e3).2
        have := k5.size
        omega
    · have ei : i = rc.rs.length := by omega
      subst ei
      have e1 : (rc.rs ++ [(⟨fr.at_, A4, fr.n, c4⟩ : FR)]).getD rc.rs.length FR.zero = ⟨fr.at_, A4, fr.n, c4⟩ := by simp [List.getD_eq_getElem?_getD]
      rw [e1]
      intro e3
      have h3 := l4 k e3
      rcases l6 k hk with e2 | e2
      · have := (rwf_lo h.f e2).2
        omega
      · have := b5.size
        omega
  · rcases l6 k hk with e2 | e2
    · exact h.disy k e2
    · refine ⟨fun e3 => ?_, fun e3 => ?_⟩
      · have := (h.ylo k e3).2
        have := k5.size
        omega
      · have := (h.olo k e3).2
        have := k5.size
        omega
end Go.Proofs.YtejmmjedognaaaaGreat

namespace Go.Proofs.YtejmmjedognaaaaGreat
open Go.RowKit
open St

set_option maxRecDepth 100000 in
theorem take_fg {fs : List Frg} {i : Nat} (h : i < fs.length) : fs.take (i + 1) = fs.take i ++ [fs.getD i Frg.zero] := by
  rw [List.take_add_one, List.getElem?_eq_getElem h]
  simp [h]

set_option maxRecDepth 100000 in
theorem chg9 (w : World) (D : Nat) (v0 v1 v2 v3 v4 v5 v6 v7 v8 : Value) : Chg (fun k => k = D) w (((((((((w.setCell ⟨D, 0, none⟩ v0).setCell ⟨D, 1, none⟩ v1).setCell ⟨D, 2, none⟩ v2).setCell ⟨D, 3, none⟩ v3).setCell ⟨D, 4, none⟩ v4).setCell ⟨D, 5, none⟩ v5).setCell ⟨D, 6, none⟩ v6).setCell ⟨D, 7, none⟩ v7).setCell ⟨D, 8, none⟩ v8) :=
  (((((((((Chg.refl (fun k => k = D) w).setCell (p := ⟨D, 0, none⟩) (.inl rfl) _).setCell (p := ⟨D, 1, none⟩) (.inl rfl) _).setCell (p := ⟨D, 2, none⟩) (.inl rfl) _).setCell (p := ⟨D, 3, none⟩) (.inl rfl) _).setCell (p := ⟨D, 4, none⟩) (.inl rfl) _).setCell (p := ⟨D, 5, none⟩) (.inl rfl) _).setCell (p := ⟨D, 6, none⟩) (.inl rfl) _).setCell (p := ⟨D, 7, none⟩) (.inl rfl) _).setCell (p := ⟨D, 8, none⟩) (.inl rfl) _
/-- A dump whose rows are one's own, from B on. -/
structure DOw (B : Nat) (w : World) (rc : DR) (d : Dmp) : Prop where
  y : FV w rc.y d.y
  ylo : ∀ k, rc.y.A.map (·.block) = some k → B ≤ k
  o : FV w rc.o d.o
  olo : ∀ k, rc.o.A.map (·.block) = some k → B ≤ k
  f : Rwf w B rc.F rc.fc rc.rs d.fs
  fm : rc.fm = rc.rs.length
set_option maxRecDepth 100000 in
theorem dow_chg {B : Nat} {w w' : World} {rc : DR} {d : Dmp} {K : Nat → Prop} (h : DOw B w rc d) (hc : Chg K w w') (hk : ∀ k, K k → k < B) : DOw B w' rc d :=
  ⟨fv_chg h.y hc (fun k e e2 => by have := h.ylo k e; have := hk k e2; omega), h.ylo, fv_chg h.o hc (fun k e e2 => by have := h.olo k e; have := hk k e2; omega), h.olo, rwf_chg h.f hc hk, h.fm⟩

/-- What CopyDump answers. -/
def CdP (w : World) (d : Dmp) (e : Ending) (w' : World) : Prop :=
  ∃ r', e = .returned (.agg #[.int .i64 r'.y.at_, .slice r'.y.A r'.y.n r'.y.c, .int .i64 r'.o.at_, .slice r'.o.A r'.o.n r'.o.c, .int .i64 r'.size, .int .i64 r'.mark, .slice r'.F r'.fm r'.fc, .slice r'.R r'.rm r'.rc, .slice r'.H r'.hm r'.hc]) ∧ DV w' r' d ∧ Below w.heap.size w w'

set_option maxRecDepth 100000 in
set_option maxRecDepth 100000 in
set_option maxHeartbeats 8000000 in
theorem copyDump_some {w : World} {r : DR} {d : Dmp} (h : DV w r d) (hs : Sm r) {b o : Nat} (hF : r.F = some ⟨b, o, none⟩) :
    Calls Tryz.prog 9 #[.agg #[.int .i64 r.y.at_, .slice r.y.A r.y.n r.y.c, .int .i64 r.o.at_, .slice r.o.A r.o.n r.o.c, .int .i64 r.size, .int .i64 r.mark, .slice r.F r.fm r.fc, .slice r.R r.rm r.rc, .slice r.H r.hm r.hc]] w (CdP w d) := by
  obtain ⟨wa, hwa⟩ : ∃ wa, wa = w.alloc (.cells #[.int .i64 r.y.at_, .slice r.y.A r.y.n r.y.c, .int .i64 r.o.at_, .slice r.o.A r.o.n r.o.c, .int .i64 r.size, .int .i64 r.mark, .slice r.F r.fm r.fc, .slice r.R r.rm r.rc, .slice r.H r.hm r.hc] 28) := ⟨_, rfl⟩
  obtain ⟨w0, hw0⟩ : ∃ w0, w0 = wa.alloc (.cells #[.int .i64 0, .slice none 0 0, .int .i64 0, .slice none 0 0, .int .i64 0, .int .i64 0, .slice none 0 0, .slice none 0 0, .slice none 0 0] 28) := ⟨_, rfl⟩
  have hba : Below w.heap.size w wa := by rw [hwa]; exact (Below.refl _ w).alloc (Nat.le_refl _) _
  have hsa : wa.heap.size = w.heap.size + 1 := by rw [hwa]; simp
  have hb0 : Below w.heap.size w w0 := by rw [hw0]; exact hba.alloc hba.size _
  have x0 : Bx w0 w.heap.size r := ⟨by rw [hw0, Below.heap_alloc _ _ _ (by omega), hwa]; exact heap_alloc_new w _⟩
  have z0 : Bx w0 (w.heap.size + 1) DR.zero := ⟨by rw [← hsa, hw0]; exact heap_alloc_new wa _⟩
  replace hF := Lib.hid hF
  go_enter Tryz.func9, Tryz.ntmps9
  go_upto_region 1 with fail
  rw [← hwa, ← hw0]
  clear hwa hw0 hba hsa
  have hA := hF.out
  generalize hD1 : w.heap.size = D1 at *
  generalize hD2 : D1 + 1 = D2 at *
  replace hD1 := Lib.hid hD1
  have hlt : D1 < D2 := by omega
  replace hD2 := Lib.hid hD2
  have hbv : Hid (∀ wx, Below D1 w wx → DV wx r d) := Lib.hid (fun wx hb => h.below (by rw [hD1.out]; exact hb))
  obtain ⟨A1, k1, wA, t1, zA, bA, lA⟩ := zs_copy und_ws ie_u (hbv.out _ hb0).y.ws (by have := hs.y; omega) 22
  have gA : Chg (fun _ => False) w0 wA := .below bA
  have xA := x0.chg gA (fun h => h)
  have zzA := z0.chg gA (fun h => h)
  have c1 := x0.c1
  have cA1 := xA.c1
  have fA1 := xA.fz 1
  have T1 := Lib.hid t1
  have K0 : Hid (Below D1 w w0 ∧ Bx wA D1 r ∧ Bx wA D2 DR.zero ∧ Chg (fun _ => False) w0 wA ∧ Zs .u64 wA A1 r.y.n k1 d.y.ws ∧ D2 < w0.heap.size ∧ (∀ k, A1.map (·.block) = some k → w0.heap.size ≤ k ∧ k < wA.heap.size)) := Lib.hid ⟨hb0, xA, zzA, gA, zA, z0.lt, lA⟩
  clear t1 zA bA lA gA xA zzA x0 z0 hb0
  go_upto_region 2 with (at_builtin; refine wpApp rfl (.const (.slice none 0 0)) (.tmp 7) _ rfl _ _ _ rfl rfl T1.out ?_)
  clear c1 cA1 fA1 T1
  have S2 : Hid (Below D1 w (wA.setCell ⟨D1, 1, none⟩ (.slice A1 r.y.n k1)) ∧ Bx (wA.setCell ⟨D1, 1, none⟩ (.slice A1 r.y.n k1)) D1 { r with y := ⟨r.y.at_, A1, r.y.n, k1⟩ } ∧ Bx (wA.setCell ⟨D1, 1, none⟩ (.slice A1 r.y.n k1)) D2 DR.zero ∧ FV (wA.setCell ⟨D1, 1, none⟩ (.slice A1 r.y.n k1)) ⟨r.y.at_, A1, r.y.n, k1⟩ d.y ∧ (∀ k, A1.map (·.block) = some k → D2 < k ∧ k < (wA.setCell ⟨D1, 1, none⟩ (.slice A1 r.y.n k1)).heap.size)) := Lib.hid (by
    obtain ⟨q1, q2, q3, q4, q5, q6, q7⟩ := K0.out
    have g : Chg (fun k => k = D1) wA (wA.setCell ⟨D1, 1, none⟩ (.slice A1 r.y.n k1)) := (Chg.refl (fun k => k = D1) wA).setCell (p := ⟨D1, 1, none⟩) (.inl rfl) _
    have hq := hbv.out _ q1
    refine ⟨(q1.trans (q4.toBelow (fun k h => h.elim) (Nat.le_of_lt (by omega)))).trans (g.toBelow (fun k e => by omega) (Nat.le_of_lt q2.lt)), q2.set1 _ _ _, q3.chg g (by omega), ⟨hq.y.at_, hq.y.wf, zs_chg q5 g (fun k hk e => by have := (q7 k hk).1; omega)⟩, fun k hk => ⟨by have := (q7 k hk).1; omega, by simpa using (q7 k hk).2⟩⟩)
  clear K0
  generalize wA.setCell ⟨D1, 1, none⟩ (.slice A1 r.y.n k1) = w2 at S2 ⊢
  obtain ⟨A2, k2, wB, t2, zB, bB, lB⟩ := zs_copy und_ws ie_u (hbv.out _ S2.out.1).o.ws (by have := hs.o; omega) 22
  have gB : Chg (fun _ => False) w2 wB := .below bB
  have x2 := S2.out.2.1
  have xB := x2.chg gB (fun h => h)
  have c3 := x2.c3
  have cB3 := xB.c3
  have fB3 := xB.fz 3
  have T2 := Lib.hid t2
  have K2 := Lib.hid (And.intro gB (And.intro xB (And.intro zB lB)))
  clear t2 zB bB lB gB xB x2
  go_upto_region 3 with (at_builtin; refine wpApp rfl (.const (.slice none 0 0)) (.tmp 13) _ rfl _ _ _ rfl rfl T2.out ?_)
  clear c3 cB3 fB3 T2
  have S3 : Hid (CdI w D1 D2 r d { r with y := ⟨r.y.at_, A1, r.y.n, k1⟩, o := ⟨r.o.at_, A2, r.o.n, k2⟩, F := none, fm := 0, fc := 0, rs := [] } [] ((wB.setCell ⟨D1, 3, none⟩ (.slice A2 r.o.n k2)).setCell ⟨D1, 6, none⟩ (.slice none 0 0)) ∧ (wB.setCell ⟨D1, 3, none⟩ (.slice A2 r.o.n k2)).cell? ⟨D1, 6, none⟩ = some (.slice r.F r.fm r.fc) ∧ (wB.setCell ⟨D1, 3, none⟩ (.slice A2 r.o.n k2)).frozen? ⟨D1, 6, none⟩ = false) := Lib.hid (by
    obtain ⟨q1, q2, q3, q4, q5⟩ := S2.out
    obtain ⟨p1, p2, p3, p4⟩ := K2.out
    have hq := hbv.out _ q1
    have x3 := p2.set3 A2 r.o.n k2
    have g : Chg (fun k => k = D1) wB ((wB.setCell ⟨D1, 3, none⟩ (.slice A2 r.o.n k2)).setCell ⟨D1, 6, none⟩ (.slice none 0 0)) := ((Chg.refl (fun k => k = D1) wB).setCell (p := ⟨D1, 3, none⟩) (.inl rfl) _).setCell (p := ⟨D1, 6, none⟩) (.inl rfl) _
    have hz2 := q3.lt
    refine ⟨⟨(q1.trans (p1.toBelow (fun k h => h.elim) (by omega))).trans (g.toBelow (fun k e => by omega) (Nat.le_of_lt p2.lt)), x3.set6 none 0 0 [], (q3.chg p1 (fun h => h)).chg g (by omega), hlt, fv_chg (fv_chg q4 p1 (fun _ _ h => h)) g (fun k hk e => by have := (q5 k hk).1; omega), fun k hk => ⟨(q5 k hk).1, by have h1 := (q5 k hk).2; have h2 := p1.size; simp; omega⟩,
      ⟨hq.o.at_, hq.o.wf, zs_chg p3 g (fun k hk e => by have := (p4 k hk).1; omega)⟩, fun k hk => ⟨by have := (p4 k hk).1; omega, by have h1 := (p4 k hk).2; simpa using h1⟩, rwf_nil _ _, rfl, (fun k hk => by cases hk), (fun k hk => by cases hk), rfl, rfl, rfl, rfl, rfl, rfl, rfl, rfl⟩, x3.c6, x3.fz 6⟩)
  have c6 := S3.out.2.1
  have f6 := S3.out.2.2
  replace S3 := Lib.hid S3.out.1
  clear S2 K2
  generalize wB.setCell ⟨D1, 3, none⟩ (.slice A2 r.o.n k2) = w3 at S3 c6 f6 ⊢
  have hfm : r.fm ≤ 6 := hs.fm
  go_wp2_with fail
  clear c6 f6
  go_loopw [4] (fun x wx => ∃ (i : Nat) (rc : DR), i ≤ r.fm ∧ x = .int .i64 (i : Int) ∧ CdI w D1 D2 r d rc (d.fs.take i) wx ∧ rc.fm = i) (fun x _ => r.fm - (intOf x).toNat)
  case atStart => exact ⟨0, _, Nat.zero_le _, rfl, by simpa using S3.out, rfl⟩
  case round =>
    clear S3
    obtain ⟨i, rc, hi, rfl, I, hrc⟩ := hrel
    have hv := hbv.out _ I.be
    by_cases hin : i < r.fm
    · have hd1 : decide ((i : Int) < (r.fm : Int)) = true := decide_eq_true (by omega)
      have vf := hv.fs
      rw [hA] at vf
      obtain ⟨y0, y1⟩ := vf.at_ hin
      have hfn := hs.fs i hin
      obtain ⟨A4, c4, w4, A6, c6, w6, t1, t2, ⟨⟨x4, b4⟩, x6⟩, J⟩ := cp_prep (I.drewN 1) (by have := I.fm; omega) (r.rs.getD i FR.zero) (d.fs.getD i Frg.zero) ((vf.fv i hin).drewN 1) (by omega)
      rw [← take_fg (by rw [vf.lef]; exact hin), hrc] at J
      have vg := (hbv.out _ b4).fs
      rw [hA] at vg
      obtain ⟨y2, y3⟩ := vg.at_ hin
      have e1 := I.x.c6
      have e4 := x4.c6
      have e5 := (x4.below ((Below.refl _ w4).alloc (Nat.le_refl _) (.cells #[.int .i64 (r.rs.getD i FR.zero).at_, .slice A4 (r.rs.getD i FR.zero).n c4] 24)) x4.lt).c6
      have e6 := x6.c6
      have g6 := x6.fz 6
      rw [hrc] at t2 e1 e4 e5 e6
      have T1 := Lib.hid t1
      have T2 := Lib.hid t2
      have HJ := Lib.hid J
      clear t1 t2 J x4 x6 vf vg hv I b4
      generalize r.rs.getD i FR.zero = fr at *
      go_wp2_with fail
      go_region_law (first | (refine step_apnd rfl (.const (.slice none 0 0)) (.tmp 37) 22 rfl (.slice none 0 0) _ _ rfl rfl T1.out ?_) | (refine step_apnd rfl (.tmp 27) (.tmp 40) 25 rfl (.slice rc.F i rc.fc) _ _ rfl rfl T2.out ?_))
      all_goals
        go_wp2_with fail
        exact ⟨⟨i + 1, _, by omega, rfl, HJ.out, rfl⟩, by simp [intOf]; omega⟩
    · have e : i = r.fm := by omega
      have hd1 : decide ((i : Int) < (r.fm : Int)) = false := decide_eq_false (by omega)
      have htk : d.fs.take i = d.fs := by rw [e, ← hv.fs.lef]; exact List.take_of_length_le (Nat.le_refl _)
      rw [htk] at I
      obtain ⟨A7, k7, wC, t7, zC, bC, lC⟩ := zs_copy und_ws ie_u hv.roots (by have := hs.rm; omega) 22
      have hzl := I.z.lt
      have gC : Chg (fun _ => False) wr wC := .below bC
      have xC := I.x.chg gC (fun h => h)
      have zzC := I.z.chg gC (fun h => h)
      have w8b : Below D1 w (wC.setCell ⟨D1, 7, none⟩ (.slice A7 r.rm k7)) := (I.be.trans (gC.toBelow (fun k h => h.elim) (by omega))).setCell (p := ⟨D1, 7, none⟩) (Nat.le_refl _) _
      obtain ⟨A8, k8, wD, t8, zD, bD, lD⟩ := zs_copy und_is ie_i (hbv.out _ w8b).hs (by have := hs.hm; omega) 26
      have g8 : Chg (fun k => k = D1) wC (wC.setCell ⟨D1, 7, none⟩ (.slice A7 r.rm k7)) := (Chg.refl (fun k => k = D1) wC).setCell (p := ⟨D1, 7, none⟩) (.inl rfl) _
      have gD : Chg (fun _ => False) (wC.setCell ⟨D1, 7, none⟩ (.slice A7 r.rm k7)) wD := .below bD
      have gE : Chg (fun k => k = D1) wD (wD.setCell ⟨D1, 8, none⟩ (.slice A8 r.hm k8)) := (Chg.refl (fun k => k = D1) wD).setCell (p := ⟨D1, 8, none⟩) (.inl rfl) _
      obtain ⟨r1, r2, r3, r4, r5, r6, r7, r8⟩ := I.rest
      have x8 := xC.set7 A7 r.rm k7
      have xD := x8.chg gD (fun h => h)
      have xE := xD.set8 A8 r.hm k8
      have zE := ((zzC.chg g8 (by omega)).chg gD (fun h => h)).chg gE (by omega)
      have oE : DOw (D2 + 1) (wD.setCell ⟨D1, 8, none⟩ (.slice A8 r.hm k8)) rc d :=
        dow_chg (dow_chg (dow_chg (dow_chg ⟨I.y, fun k hk => (I.ylo k hk).1, I.o, fun k hk => (I.olo k hk).1, I.f, I.fm⟩ gC (fun _ h => h.elim)) g8 (fun k e => by omega)) gD (fun _ h => h.elim)) gE (fun k e => by omega)
      have zz7 := zs_chg (zs_chg (zs_chg zC g8 (fun k hk e => by have := (lC k hk).1; omega)) gD (fun _ _ h => h)) gE (fun k hk e => by have := (lC k hk).1; omega)
      have hs8 : D2 < (wC.setCell ⟨D1, 7, none⟩ (.slice A7 r.rm k7)).heap.size := by have := gC.size; simp; omega
      have zz8 := zs_chg zD gE (fun k hk e => by have := (lD k hk).1; omega)
      have bE : Below D1 w (wD.setCell ⟨D1, 8, none⟩ (.slice A8 r.hm k8)) := (w8b.trans (gD.toBelow (fun k h => h.elim) (by omega))).setCell (p := ⟨D1, 8, none⟩) (Nat.le_refl _) _
      have q7 : wr.cell? ⟨D1, 7, none⟩ = some (.slice r.R r.rm r.rc) := by rw [← r3, ← r4, ← r5]; exact I.x.c7
      have q7c : wC.cell? ⟨D1, 7, none⟩ = some (.slice r.R r.rm r.rc) := by rw [← r3, ← r4, ← r5]; exact xC.c7
      have q7f := xC.fz 7
      have q8 : (wC.setCell ⟨D1, 7, none⟩ (.slice A7 r.rm k7)).cell? ⟨D1, 8, none⟩ = some (.slice r.H r.hm r.hc) := by rw [← r6, ← r7, ← r8]; exact x8.c8
      have q8c : wD.cell? ⟨D1, 8, none⟩ = some (.slice r.H r.hm r.hc) := by rw [← r6, ← r7, ← r8]; exact xD.c8
      have q8f := xD.fz 8
      have T7 := Lib.hid t7
      have T8 := Lib.hid t8
      have l7 : ∀ k, A7.map (·.block) = some k → D2 < k := fun k hk => by have := (lC k hk).1; omega
      have l8 : ∀ k, A8.map (·.block) = some k → D2 < k := fun k hk => by have := (lD k hk).1; omega
      have KE := Lib.hid (And.intro xE (And.intro zE (And.intro oE (And.intro zz7 (And.intro zz8 (And.intro bE (And.intro l7 l8)))))))
      have KR := Lib.hid (And.intro r1 (And.intro r2 (And.intro hv trivial)))
      clear xE zE oE zz7 zz8 bE l7 l8 r1 r2 r3 r4 r5 r6 r7 r8 x8 xD gE gD g8 zD bD lD w8b xC zzC gC zC bC lC t7 t8 I hv hs8
      go_upto_region 11 with (first
        | (at_builtin; first | (refine wpApp rfl (.const (.slice none 0 0)) (.tmp 44) _ rfl _ _ _ rfl rfl T7.out ?_) | (refine wpApp rfl (.const (.slice none 0 0)) (.tmp 48) _ rfl _ _ _ rfl rfl T8.out ?_)))
      clear q7 q7c q7f q8 q8c q8f T7 T8
      generalize wD.setCell ⟨D1, 8, none⟩ (.slice A8 r.hm k8) = wE at KE ⊢
      obtain ⟨xE, zE, oE, zz7, zz8, bE, l7, l8⟩ := KE.out
      have a0 := xE.c0
      have a1 := xE.c1
      have a2 := xE.c2
      have a3 := xE.c3
      have a4 := xE.c4
      have a5 := xE.c5
      have a6 := xE.c6
      have a7 := xE.c7
      have a8 := xE.c8
      simp only at a0 a1 a2 a3 a4 a5 a6 a7 a8
      have b0 := zE.c0
      have b1 := zE.c1
      have b2 := zE.c2
      have b3 := zE.c3
      have b4 := zE.c4
      have b5 := zE.c5
      have b6 := zE.c6
      have b7 := zE.c7
      have b8 := zE.c8
      have g0 := zE.fz 0
      have g1 := zE.fz 1
      have g2 := zE.fz 2
      have g3 := zE.fz 3
      have g4 := zE.fz 4
      have g5 := zE.fz 5
      have g6 := zE.fz 6
      have g7 := zE.fz 7
      have g8 := zE.fz 8
      clear xE zE oE zz7 zz8 bE l7 l8
      go_wp2
      refine bodyPost_ret (v := .agg #[.int .i64 rc.y.at_, .slice rc.y.A rc.y.n rc.y.c, .int .i64 rc.o.at_, .slice rc.o.A rc.o.n rc.o.c, .int .i64 rc.size, .int .i64 rc.mark, .slice rc.F r.fm rc.fc, .slice A7 r.rm k7, .slice A8 r.hm k8]) (by simp [results, Tryz.results9, go_sem, b0, b1, b2, b3, b4, b5, b6, b7, b8]) rfl ?_
      obtain ⟨xE, zE, oE, zz7, zz8, bE, l7, l8⟩ := KE.out
      obtain ⟨r1, r2, hv, _⟩ := KR.out
      have gF := chg9 wE D2 (.int .i64 rc.y.at_) (.slice rc.y.A rc.y.n rc.y.c) (.int .i64 rc.o.at_) (.slice rc.o.A rc.o.n rc.o.c) (.int .i64 rc.size) (.int .i64 rc.mark) (.slice rc.F r.fm rc.fc) (.slice A7 r.rm k7) (.slice A8 r.hm k8)
      have oF := dow_chg oE gF (fun k e => by omega)
      have hlen : rc.rs.length = r.fm := by rw [← oE.fm, hrc, e]
      have hff := rwf_fvs oF.f
      rw [hlen] at hff
      refine ⟨⟨rc.y, rc.o, rc.size, rc.mark, rc.F, r.fm, rc.fc, A7, r.rm, k7, A8, r.hm, k8, rc.rs⟩, rfl, ⟨oF.y, oF.o, by rw [r1]; exact hv.size, by rw [r2]; exact hv.mark, hv.wfs, hv.wfm, hff, zs_chg zz7 gF (fun k hk e => by have := l7 k hk; omega), zs_chg zz8 gF (fun k hk e => by have := l8 k hk; omega)⟩, ?_⟩
      rw [hD1.out]
      exact bE.trans (gF.toBelow (fun k e => by omega) (Nat.le_trans (Nat.le_of_lt xE.lt) (Nat.le_refl _)))
set_option maxRecDepth 100000 in
set_option maxRecDepth 100000 in
set_option maxHeartbeats 8000000 in
theorem copyDump_none {w : World} {r : DR} {d : Dmp} (h : DV w r d) (hs : Sm r) (hF : r.fm = 0) :
    Calls Tryz.prog 9 #[.agg #[.int .i64 r.y.at_, .slice r.y.A r.y.n r.y.c, .int .i64 r.o.at_, .slice r.o.A r.o.n r.o.c, .int .i64 r.size, .int .i64 r.mark, .slice r.F r.fm r.fc, .slice r.R r.rm r.rc, .slice r.H r.hm r.hc]] w (CdP w d) := by
  obtain ⟨wa, hwa⟩ : ∃ wa, wa = w.alloc (.cells #[.int .i64 r.y.at_, .slice r.y.A r.y.n r.y.c, .int .i64 r.o.at_, .slice r.o.A r.o.n r.o.c, .int .i64 r.size, .int .i64 r.mark, .slice r.F r.fm r.fc, .slice r.R r.rm r.rc, .slice r.H r.hm r.hc] 28) := ⟨_, rfl⟩
  obtain ⟨w0, hw0⟩ : ∃ w0, w0 = wa.alloc (.cells #[.int .i64 0, .slice none 0 0, .int .i64 0, .slice none 0 0, .int .i64 0, .int .i64 0, .slice none 0 0, .slice none 0 0, .slice none 0 0] 28) := ⟨_, rfl⟩
  have hba : Below w.heap.size w wa := by rw [hwa]; exact (Below.refl _ w).alloc (Nat.le_refl _) _
  have hsa : wa.heap.size = w.heap.size + 1 := by rw [hwa]; simp
  have hb0 : Below w.heap.size w w0 := by rw [hw0]; exact hba.alloc hba.size _
  have x0 : Bx w0 w.heap.size r := ⟨by rw [hw0, Below.heap_alloc _ _ _ (by omega), hwa]; exact heap_alloc_new w _⟩
  have z0 : Bx w0 (w.heap.size + 1) DR.zero := ⟨by rw [← hsa, hw0]; exact heap_alloc_new wa _⟩
  replace hF := Lib.hid hF
  go_enter Tryz.func9, Tryz.ntmps9
  go_upto_region 1 with fail
  rw [← hwa, ← hw0]
  clear hwa hw0 hba hsa
  generalize hD1 : w.heap.size = D1 at *
  generalize hD2 : D1 + 1 = D2 at *
  replace hD1 := Lib.hid hD1
  have hlt : D1 < D2 := by omega
  replace hD2 := Lib.hid hD2
  have hbv : Hid (∀ wx, Below D1 w wx → DV wx r d) := Lib.hid (fun wx hb => h.below (by rw [hD1.out]; exact hb))
  obtain ⟨A1, k1, wA, t1, zA, bA, lA⟩ := zs_copy und_ws ie_u (hbv.out _ hb0).y.ws (by have := hs.y; omega) 22
  have gA : Chg (fun _ => False) w0 wA := .below bA
  have xA := x0.chg gA (fun h => h)
  have zzA := z0.chg gA (fun h => h)
  have c1 := x0.c1
  have cA1 := xA.c1
  have fA1 := xA.fz 1
  have T1 := Lib.hid t1
  have K0 : Hid (Below D1 w w0 ∧ Bx wA D1 r ∧ Bx wA D2 DR.zero ∧ Chg (fun _ => False) w0 wA ∧ Zs .u64 wA A1 r.y.n k1 d.y.ws ∧ D2 < w0.heap.size ∧ (∀ k, A1.map (·.block) = some k → w0.heap.size ≤ k ∧ k < wA.heap.size)) := Lib.hid ⟨hb0, xA, zzA, gA, zA, z0.lt, lA⟩
  clear t1 zA bA lA gA xA zzA x0 z0 hb0
  go_upto_region 2 with (at_builtin; refine wpApp rfl (.const (.slice none 0 0)) (.tmp 7) _ rfl _ _ _ rfl rfl T1.out ?_)
  clear c1 cA1 fA1 T1
  have S2 : Hid (Below D1 w (wA.setCell ⟨D1, 1, none⟩ (.slice A1 r.y.n k1)) ∧ Bx (wA.setCell ⟨D1, 1, none⟩ (.slice A1 r.y.n k1)) D1 { r with y := ⟨r.y.at_, A1, r.y.n, k1⟩ } ∧ Bx (wA.setCell ⟨D1, 1, none⟩ (.slice A1 r.y.n k1)) D2 DR.zero ∧ FV (wA.setCell ⟨D1, 1, none⟩ (.slice A1 r.y.n k1)) ⟨r.y.at_, A1, r.y.n, k1⟩ d.y ∧ (∀ k, A1.map (·.block) = some k → D2 < k ∧ k < (wA.setCell ⟨D1, 1, none⟩ (.slice A1 r.y.n k1)).heap.size)) := Lib.hid (by
    obtain ⟨q1, q2, q3, q4, q5, q6, q7⟩ := K0.out
    have g : Chg (fun k => k = D1) wA (wA.setCell ⟨D1, 1, none⟩ (.slice A1 r.y.n k1)) := (Chg.refl (fun k => k = D1) wA).setCell (p := ⟨D1, 1, none⟩) (.inl rfl) _
    have hq := hbv.out _ q1
    refine ⟨(q1.trans (q4.toBelow (fun k h => h.elim) (Nat.le_of_lt (by omega)))).trans (g.toBelow (fun k e => by omega) (Nat.le_of_lt q2.lt)), q2.set1 _ _ _, q3.chg g (by omega), ⟨hq.y.at_, hq.y.wf, zs_chg q5 g (fun k hk e => by have := (q7 k hk).1; omega)⟩, fun k hk => ⟨by have := (q7 k hk).1; omega, by simpa using (q7 k hk).2⟩⟩)
  clear K0
  generalize wA.setCell ⟨D1, 1, none⟩ (.slice A1 r.y.n k1) = w2 at S2 ⊢
  obtain ⟨A2, k2, wB, t2, zB, bB, lB⟩ := zs_copy und_ws ie_u (hbv.out _ S2.out.1).o.ws (by have := hs.o; omega) 22
  have gB : Chg (fun _ => False) w2 wB := .below bB
  have x2 := S2.out.2.1
  have xB := x2.chg gB (fun h => h)
  have c3 := x2.c3
  have cB3 := xB.c3
  have fB3 := xB.fz 3
  have T2 := Lib.hid t2
  have K2 := Lib.hid (And.intro gB (And.intro xB (And.intro zB lB)))
  clear t2 zB bB lB gB xB x2
  go_upto_region 3 with (at_builtin; refine wpApp rfl (.const (.slice none 0 0)) (.tmp 13) _ rfl _ _ _ rfl rfl T2.out ?_)
  clear c3 cB3 fB3 T2
  have S3 : Hid (CdI w D1 D2 r d { r with y := ⟨r.y.at_, A1, r.y.n, k1⟩, o := ⟨r.o.at_, A2, r.o.n, k2⟩, F := none, fm := 0, fc := 0, rs := [] } [] ((wB.setCell ⟨D1, 3, none⟩ (.slice A2 r.o.n k2)).setCell ⟨D1, 6, none⟩ (.slice none 0 0)) ∧ (wB.setCell ⟨D1, 3, none⟩ (.slice A2 r.o.n k2)).cell? ⟨D1, 6, none⟩ = some (.slice r.F r.fm r.fc) ∧ (wB.setCell ⟨D1, 3, none⟩ (.slice A2 r.o.n k2)).frozen? ⟨D1, 6, none⟩ = false) := Lib.hid (by
    obtain ⟨q1, q2, q3, q4, q5⟩ := S2.out
    obtain ⟨p1, p2, p3, p4⟩ := K2.out
    have hq := hbv.out _ q1
    have x3 := p2.set3 A2 r.o.n k2
    have g : Chg (fun k => k = D1) wB ((wB.setCell ⟨D1, 3, none⟩ (.slice A2 r.o.n k2)).setCell ⟨D1, 6, none⟩ (.slice none 0 0)) := ((Chg.refl (fun k => k = D1) wB).setCell (p := ⟨D1, 3, none⟩) (.inl rfl) _).setCell (p := ⟨D1, 6, none⟩) (.inl rfl) _
    have hz2 := q3.lt
    refine ⟨⟨(q1.trans (p1.toBelow (fun k h => h.elim) (by omega))).trans (g.toBelow (fun k e => by omega) (Nat.le_of_lt p2.lt)), x3.set6 none 0 0 [], (q3.chg p1 (fun h => h)).chg g (by omega), hlt, fv_chg (fv_chg q4 p1 (fun _ _ h => h)) g (fun k hk e => by have := (q5 k hk).1; omega), fun k hk => ⟨(q5 k hk).1, by have h1 := (q5 k hk).2; have h2 := p1.size; simp; omega⟩,
      ⟨hq.o.at_, hq.o.wf, zs_chg p3 g (fun k hk e => by have := (p4 k hk).1; omega)⟩, fun k hk => ⟨by have := (p4 k hk).1; omega, by have h1 := (p4 k hk).2; simpa using h1⟩, rwf_nil _ _, rfl, (fun k hk => by cases hk), (fun k hk => by cases hk), rfl, rfl, rfl, rfl, rfl, rfl, rfl, rfl⟩, x3.c6, x3.fz 6⟩)
  have c6 := S3.out.2.1
  have f6 := S3.out.2.2
  replace S3 := Lib.hid S3.out.1
  clear S2 K2
  generalize wB.setCell ⟨D1, 3, none⟩ (.slice A2 r.o.n k2) = w3 at S3 c6 f6 ⊢
  have hfm : r.fm ≤ 6 := hs.fm
  go_wp2_with fail
  clear c6 f6
  go_loopw [4] (fun x wx => ∃ (i : Nat) (rc : DR), i ≤ r.fm ∧ x = .int .i64 (i : Int) ∧ CdI w D1 D2 r d rc (d.fs.take i) wx ∧ rc.fm = i) (fun x _ => r.fm - (intOf x).toNat)
  case atStart => exact ⟨0, _, Nat.zero_le _, rfl, by simpa using S3.out, rfl⟩
  case round =>
    clear S3
    obtain ⟨i, rc, hi, rfl, I, hrc⟩ := hrel
    have hv := hbv.out _ I.be
    by_cases hin : i < r.fm
    · have := hF.out
      omega
    · have e : i = r.fm := by omega
      have hd1 : decide ((i : Int) < (r.fm : Int)) = false := decide_eq_false (by omega)
      have htk : d.fs.take i = d.fs := by rw [e, ← hv.fs.lef]; exact List.take_of_length_le (Nat.le_refl _)
      rw [htk] at I
      obtain ⟨A7, k7, wC, t7, zC, bC, lC⟩ := zs_copy und_ws ie_u hv.roots (by have := hs.rm; omega) 22
      have hzl := I.z.lt
      have gC : Chg (fun _ => False) wr wC := .below bC
      have xC := I.x.chg gC (fun h => h)
      have zzC := I.z.chg gC (fun h => h)
      have w8b : Below D1 w (wC.setCell ⟨D1, 7, none⟩ (.slice A7 r.rm k7)) := (I.be.trans (gC.toBelow (fun k h => h.elim) (by omega))).setCell (p := ⟨D1, 7, none⟩) (Nat.le_refl _) _
      obtain ⟨A8, k8, wD, t8, zD, bD, lD⟩ := zs_copy und_is ie_i (hbv.out _ w8b).hs (by have := hs.hm; omega) 26
      have g8 : Chg (fun k => k = D1) wC (wC.setCell ⟨D1, 7, none⟩ (.slice A7 r.rm k7)) := (Chg.refl (fun k => k = D1) wC).setCell (p := ⟨D1, 7, none⟩) (.inl rfl) _
      have gD : Chg (fun _ => False) (wC.setCell ⟨D1, 7, none⟩ (.slice A7 r.rm k7)) wD := .below bD
      have gE : Chg (fun k => k = D1) wD (wD.setCell ⟨D1, 8, none⟩ (.slice A8 r.hm k8)) := (Chg.refl (fun k => k = D1) wD).setCell (p := ⟨D1, 8, none⟩) (.inl rfl) _
      obtain ⟨r1, r2, r3, r4, r5, r6, r7, r8⟩ := I.rest
      have x8 := xC.set7 A7 r.rm k7
      have xD := x8.chg gD (fun h => h)
      have xE := xD.set8 A8 r.hm k8
      have zE := ((zzC.chg g8 (by omega)).chg gD (fun h => h)).chg gE (by omega)
      have oE : DOw (D2 + 1) (wD.setCell ⟨D1, 8, none⟩ (.slice A8 r.hm k8)) rc d :=
        dow_chg (dow_chg (dow_chg (dow_chg ⟨I.y, fun k hk => (I.ylo k hk).1, I.o, fun k hk => (I.olo k hk).1, I.f, I.fm⟩ gC (fun _ h => h.elim)) g8 (fun k e => by omega)) gD (fun _ h => h.elim)) gE (fun k e => by omega)
      have zz7 := zs_chg (zs_chg (zs_chg zC g8 (fun k hk e => by have := (lC k hk).1; omega)) gD (fun _ _ h => h)) gE (fun k hk e => by have := (lC k hk).1; omega)
      have hs8 : D2 < (wC.setCell ⟨D1, 7, none⟩ (.slice A7 r.rm k7)).heap.size := by have := gC.size; simp; omega
      have zz8 := zs_chg zD gE (fun k hk e => by have := (lD k hk).1; omega)
      have bE : Below D1 w (wD.setCell ⟨D1, 8, none⟩ (.slice A8 r.hm k8)) := (w8b.trans (gD.toBelow (fun k h => h.elim) (by omega))).setCell (p := ⟨D1, 8, none⟩) (Nat.le_refl _) _
      have q7 : wr.cell? ⟨D1, 7, none⟩ = some (.slice r.R r.rm r.rc) := by rw [← r3, ← r4, ← r5]; exact I.x.c7
      have q7c : wC.cell? ⟨D1, 7, none⟩ = some (.slice r.R r.rm r.rc) := by rw [← r3, ← r4, ← r5]; exact xC.c7
      have q7f := xC.fz 7
      have q8 : (wC.setCell ⟨D1, 7, none⟩ (.slice A7 r.rm k7)).cell? ⟨D1, 8, none⟩ = some (.slice r.H r.hm r.hc) := by rw [← r6, ← r7, ← r8]; exact x8.c8
      have q8c : wD.cell? ⟨D1, 8, none⟩ = some (.slice r.H r.hm r.hc) := by rw [← r6, ← r7, ← r8]; exact xD.c8
      have q8f := xD.fz 8
      have T7 := Lib.hid t7
      have T8 := Lib.hid t8
      have l7 : ∀ k, A7.map (·.block) = some k → D2 < k := fun k hk => by have := (lC k hk).1; omega
      have l8 : ∀ k, A8.map (·.block) = some k → D2 < k := fun k hk => by have := (lD k hk).1; omega
      have KE := Lib.hid (And.intro xE (And.intro zE (And.intro oE (And.intro zz7 (And.intro zz8 (And.intro bE (And.intro l7 l8)))))))
      have KR := Lib.hid (And.intro r1 (And.intro r2 (And.intro hv trivial)))
      clear xE zE oE zz7 zz8 bE l7 l8 r1 r2 r3 r4 r5 r6 r7 r8 x8 xD gE gD g8 zD bD lD w8b xC zzC gC zC bC lC t7 t8 I hv hs8
      go_upto_region 11 with (first
        | (at_builtin; first | (refine wpApp rfl (.const (.slice none 0 0)) (.tmp 44) _ rfl _ _ _ rfl rfl T7.out ?_) | (refine wpApp rfl (.const (.slice none 0 0)) (.tmp 48) _ rfl _ _ _ rfl rfl T8.out ?_)))
      clear q7 q7c q7f q8 q8c q8f T7 T8
      generalize wD.setCell ⟨D1, 8, none⟩ (.slice A8 r.hm k8) = wE at KE ⊢
      obtain ⟨xE, zE, oE, zz7, zz8, bE, l7, l8⟩ := KE.out
      have a0 := xE.c0
      have a1 := xE.c1
      have a2 := xE.c2
      have a3 := xE.c3
      have a4 := xE.c4
      have a5 := xE.c5
      have a6 := xE.c6
      have a7 := xE.c7
      have a8 := xE.c8
      simp only at a0 a1 a2 a3 a4 a5 a6 a7 a8
      have b0 := zE.c0
      have b1 := zE.c1
      have b2 := zE.c2
      have b3 := zE.c3
      have b4 := zE.c4
      have b5 := zE.c5
      have b6 := zE.c6
      have b7 := zE.c7
      have b8 := zE.c8
      have g0 := zE.fz 0
      have g1 := zE.fz 1
      have g2 := zE.fz 2
      have g3 := zE.fz 3
      have g4 := zE.fz 4
      have g5 := zE.fz 5
      have g6 := zE.fz 6
      have g7 := zE.fz 7
      have g8 := zE.fz 8
      clear xE zE oE zz7 zz8 bE l7 l8
      go_wp2
      refine bodyPost_ret (v := .agg #[.int .i64 rc.y.at_, .slice rc.y.A rc.y.n rc.y.c, .int .i64 rc.o.at_, .slice rc.o.A rc.o.n rc.o.c, .int .i64 rc.size, .int .i64 rc.mark, .slice rc.F r.fm rc.fc, .slice A7 r.rm k7, .slice A8 r.hm k8]) (by simp [results, Tryz.results9, go_sem, b0, b1, b2, b3, b4, b5, b6, b7, b8]) rfl ?_
      obtain ⟨xE, zE, oE, zz7, zz8, bE, l7, l8⟩ := KE.out
      obtain ⟨r1, r2, hv, _⟩ := KR.out
      have gF := chg9 wE D2 (.int .i64 rc.y.at_) (.slice rc.y.A rc.y.n rc.y.c) (.int .i64 rc.o.at_) (.slice rc.o.A rc.o.n rc.o.c) (.int .i64 rc.size) (.int .i64 rc.mark) (.slice rc.F r.fm rc.fc) (.slice A7 r.rm k7) (.slice A8 r.hm k8)
      have oF := dow_chg oE gF (fun k e => by omega)
      have hlen : rc.rs.length = r.fm := by rw [← oE.fm, hrc, e]
      have hff := rwf_fvs oF.f
      rw [hlen] at hff
      refine ⟨⟨rc.y, rc.o, rc.size, rc.mark, rc.F, r.fm, rc.fc, A7, r.rm, k7, A8, r.hm, k8, rc.rs⟩, rfl, ⟨oF.y, oF.o, by rw [r1]; exact hv.size, by rw [r2]; exact hv.mark, hv.wfs, hv.wfm, hff, zs_chg zz7 gF (fun k hk e => by have := l7 k hk; omega), zs_chg zz8 gF (fun k hk e => by have := l8 k hk; omega)⟩, ?_⟩
      rw [hD1.out]
      exact bE.trans (gF.toBelow (fun k e => by omega) (Nat.le_trans (Nat.le_of_lt xE.lt) (Nat.le_refl _)))
set_option maxRecDepth 100000 in
theorem copyDump_any {w : World} {r : DR} {d : Dmp} (h : DV w r d) (hs : Sm r) :
    Calls Tryz.prog 9 #[.agg #[.int .i64 r.y.at_, .slice r.y.A r.y.n r.y.c, .int .i64 r.o.at_, .slice r.o.A r.o.n r.o.c, .int .i64 r.size, .int .i64 r.mark, .slice r.F r.fm r.fc, .slice r.R r.rm r.rc, .slice r.H r.hm r.hc]] w (CdP w d) := by
  by_cases h0 : r.fm = 0
  · exact copyDump_none h hs h0
  · obtain ⟨b, o, hA, _⟩ := h.fs.some (by omega)
    exact copyDump_some h hs hA
end Go.Proofs.YtejmmjedognaaaaGreat
