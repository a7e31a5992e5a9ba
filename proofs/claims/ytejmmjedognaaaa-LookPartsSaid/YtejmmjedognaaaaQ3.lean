/-
  DUMPS: CopyDump.
  DUMPS: CopyDump's walk.
  DUMPS: CopyDump's walk.
-/
import Derived.Test.YtejmmjedognaaaaQ2
namespace Go.Proofs.Ytejmmjedognaaaa
open Go.RowKit
open St

def DR.zero : DR := ⟨FR.zero, FR.zero, 0, 0, none, 0, 0, none, 0, 0, none, 0, 0, []⟩
set_option maxRecDepth 100000 in
theorem Bx.fz {w : World} {D : Nat} {r : DR} (h : Bx w D r) (i : Nat) : w.frozen? ⟨D, i, none⟩ = false := frozen_of_row w D i _ _ h.blk
set_option maxRecDepth 100000 in
theorem Bx.set1 {w : World} {D : Nat} {r : DR} (h : Bx w D r) (A : Option Addr) (n c : Nat) : Bx (w.setCell ⟨D, 1, none⟩ (.slice A n c)) D { r with y := ⟨r.y.at_, A, n, c⟩ } :=
  ⟨by rw [heap_setCell_same w D 1 _ _ _ h.blk]; simp⟩
set_option maxRecDepth 100000 in
theorem Bx.set3 {w : World} {D : Nat} {r : DR} (h : Bx w D r) (A : Option Addr) (n c : Nat) : Bx (w.setCell ⟨D, 3, none⟩ (.slice A n c)) D { r with o := ⟨r.o.at_, A, n, c⟩ } :=
  ⟨by rw [heap_setCell_same w D 3 _ _ _ h.blk]; simp⟩
set_option maxRecDepth 100000 in
theorem Bx.set6 {w : World} {D : Nat} {r : DR} (h : Bx w D r) (A : Option Addr) (n c : Nat) (rs : List FR) : Bx (w.setCell ⟨D, 6, none⟩ (.slice A n c)) D { r with F := A, fm := n, fc := c, rs := rs } :=
  ⟨by rw [heap_setCell_same w D 6 _ _ _ h.blk]; simp⟩
set_option maxRecDepth 100000 in
theorem Bx.set7 {w : World} {D : Nat} {r : DR} (h : Bx w D r) (A : Option Addr) (n c : Nat) : Bx (w.setCell ⟨D, 7, none⟩ (.slice A n c)) D { r with R := A, rm := n, rc := c } :=
  ⟨by rw [heap_setCell_same w D 7 _ _ _ h.blk]; simp⟩
set_option maxRecDepth 100000 in
theorem Bx.set8 {w : World} {D : Nat} {r : DR} (h : Bx w D r) (A : Option Addr) (n c : Nat) : Bx (w.setCell ⟨D, 8, none⟩ (.slice A n c)) D { r with H := A, hm := n, hc := c } :=
  ⟨by rw [heap_setCell_same w D 8 _ _ _ h.blk]; simp⟩
set_option maxRecDepth 100000 in
theorem Bx.chg {w w' : World} {D : Nat} {r : DR} {K : Nat → Prop} (h : Bx w D r) (hc : Chg K w w') (hk : ¬ K D) : Bx w' D r := ⟨(hc.block D h.lt hk).trans h.blk⟩

/-- The regions' cells. -/
def frcs : List FR → List Value
  | [] => []
  | r :: L => .int .i64 r.at_ :: .slice r.A r.n r.c :: frcs L
set_option maxRecDepth 100000 in
theorem frcs_len (L : List FR) : (frcs L).length = L.length * 2 := by
  induction L with
  | nil => rfl
  | cons a L ih => simp only [frcs, List.length_cons, ih]; omega
set_option maxRecDepth 100000 in
theorem frcs_app (L M : List FR) : frcs (L ++ M) = frcs L ++ frcs M := by
  induction L with
  | nil => rfl
  | cons a L ih => simp only [List.cons_append, frcs, ih]
set_option maxRecDepth 100000 in
theorem frcs_get (L : List FR) (i j : Nat) (h : i < L.length) (hj : j < 2) : (frcs L)[i * 2 + j]? = (L.getD i FR.zero).cells[j]? := by
  induction L generalizing i with
  | nil => simp at h
  | cons a L ih =>
    cases i with
    | zero =>
      match j, hj with
      | 0, _ => simp [frcs, FR.cells]
      | 1, _ => simp [frcs, FR.cells]
    | succ i =>
      have := ih i (by simpa using h)
      rw [show (i + 1) * 2 + j = (i * 2 + j) + 2 by omega]
      simpa [frcs] using this
set_option maxRecDepth 100000 in
theorem frcs_one (L : List FR) : ∀ u ∈ frcs L, u.oneCell' = true := by
  induction L with
  | nil => intro u h; simp [frcs] at h
  | cons a L ih =>
    intro u h
    simp only [frcs, List.mem_cons] at h
    rcases h with rfl | rfl | h
    · rfl
    · rfl
    · exact ih u h

/-- A row of regions of one's own, at most so far down. -/
structure Rwf (w : World) (B : Nat) (A : Option Addr) (c : Nat) (rs : List FR) (fs : List Frg) : Prop where
  lef : fs.length = rs.length
  row : w.ownsRow B 29 2 (.slice A rs.length c) rs.length (frcs rs)
  fv : ∀ i, i < rs.length → FV w (rs.getD i FR.zero) (fs.getD i Frg.zero) ∧ ∀ k, (rs.getD i FR.zero).A.map (·.block) = some k → B ≤ k ∧ k < w.heap.size
set_option maxRecDepth 100000 in
theorem rwf_nil (w : World) (B : Nat) : Rwf w B none 0 [] [] := ⟨rfl, World.ownsRow_nil _ _ _ _, fun i h => by simp at h⟩
set_option maxRecDepth 100000 in
theorem rwf_lo {w : World} {B : Nat} {A : Option Addr} {c : Nat} {rs : List FR} {fs : List Frg} (h : Rwf w B A c rs fs) {k : Nat} (hk : A.map (·.block) = some k) : B ≤ k ∧ k < w.heap.size := by
  rcases h.row.2 with ⟨h0, _⟩ | ⟨g, cap, cur, hv, hb, hg, _⟩
  · injection h0 with e1 _ _
    rw [e1] at hk
    cases hk
  · injection hv with e1 _ _
    rw [e1] at hk
    cases hk
    exact ⟨hb, (Array.getElem?_eq_some_iff.1 hg).1⟩
set_option maxRecDepth 100000 in
theorem rwf_chg {w w' : World} {B : Nat} {A : Option Addr} {c : Nat} {rs : List FR} {fs : List Frg} {K : Nat → Prop} (h : Rwf w B A c rs fs) (hc : Chg K w w') (hk : ∀ k, K k → k < B) : Rwf w' B A c rs fs := by
  refine ⟨h.lef, ⟨h.row.1, ?_⟩, fun i hi => ⟨fv_chg (h.fv i hi).1 hc (fun k e e2 => by have := (h.fv i hi).2 k e; have := hk k e2; omega), fun k e => ⟨((h.fv i hi).2 k e).1, Nat.lt_of_lt_of_le ((h.fv i hi).2 k e).2 hc.size⟩⟩⟩
  rcases h.row.2 with h0 | ⟨g, cap, cur, hv, hb, hg, rest⟩
  · exact .inl h0
  · refine .inr ⟨g, cap, cur, hv, hb, ?_, rest⟩
    exact (hc.block g (Array.getElem?_eq_some_iff.1 hg).1 (fun e => by have := hk g e; omega)).trans hg
set_option maxRecDepth 100000 in
theorem rwf_fvs {w : World} {B : Nat} {A : Option Addr} {c : Nat} {rs : List FR} {fs : List Frg} (h : Rwf w B A c rs fs) : FVs w A rs.length c rs fs := by
  rcases h.row.2 with ⟨h0, h1⟩ | ⟨g, cap, cur, hv, hb, hg, hnc, hcm, _⟩
  · injection h0 with e1 e2 e3
    exact ⟨rfl, h.lef, by omega, by rw [e3]; exact Nat.zero_le _, fun hn => by omega, fun i hi => (h.fv i hi).1⟩
  · injection hv with e1 _ e3
    subst e1 e3
    refine ⟨rfl, h.lef, hnc, hcm, fun hn => ⟨g, 0, rfl, (Array.getElem?_eq_some_iff.1 hg).1, fun i hi j hj => ?_⟩, fun i hi => (h.fv i hi).1⟩
    rw [Nat.zero_add, World.ownsRow.cellAt h.row _ (by omega)]
    exact frcs_get rs i j hi hj
set_option maxRecDepth 100000 in
/-- One more region. -/
theorem rwf_app {w : World} {B : Nat} {A : Option Addr} {c : Nat} {rs : List FR} {fs : List Frg} (h : Rwf w B A c rs fs) (hB : B ≤ w.heap.size) (hn : rs.length ≤ 1000) (g0 : Nat) (r : FR) (f : Frg) (hf : FV w r f) (hfl : ∀ k, r.A.map (·.block) = some k → B ≤ k ∧ k < w.heap.size)
    (hd : ∀ k, A.map (·.block) = some k → (∀ i, i < rs.length → (rs.getD i FR.zero).A.map (·.block) ≠ some k) ∧ r.A.map (·.block) ≠ some k)
    (h0 : w.cell? ⟨g0, 0, none⟩ = some (.int .i64 r.at_)) (h1 : w.cell? ⟨g0, 1, none⟩ = some (.slice r.A r.n r.c)) (ty : TypeId) :
    ∃ A' c' w', (Builtin.append_ #[30, 30] ty #[.slice A rs.length c, .slice (some ⟨g0, 0, none⟩) 1 1]).run Try.prog w = .ok (.slice A' (rs.length + 1) c') w' ∧ Rwf w' B A' c' (rs ++ [r]) (fs ++ [f]) ∧ Chg (fun k => A.map (·.block) = some k) w w' ∧
      (∀ k, A'.map (·.block) = some k → A.map (·.block) = some k ∨ k = w.heap.size) := by
  obtain ⟨i, hi, hz, hs, hb⟩ := info_fr'
  obtain ⟨v', w', hrun, ho, hg, _, hloc⟩ := run_append_own_at (P := Try.prog) w B 30 ty 29 i (.agg #[.int .i64 0, .slice none 0 0]) 2 32 und_fs hi hz hs hb rfl (by decide) (.slice A rs.length c) rs.length (frcs rs) h.row ⟨g0, 0, none⟩ 1 1 (frcs [r]) rfl (by
    intro j u hu
    rw [Lk.addN, Nat.zero_add]
    match j, hu with
    | 0, hu => simp [frcs] at hu; rw [← hu]; exact h0
    | 1, hu => simp [frcs] at hu; rw [← hu]; exact h1
    | j + 2, hu => simp [frcs] at hu) (frcs_one _) (by unfold maxLen; omega) (by omega) hB
  have hform : ∃ A' c', v' = .slice A' (rs.length + 1) c' := by
    rcases ho.2 with ⟨_, e⟩ | ⟨g, cap, cur, rfl, _⟩
    · omega
    · exact ⟨_, _, rfl⟩
  obtain ⟨A', c', rfl⟩ := hform
  rw [own_of] at hg hloc
  rw [own_of] at hloc
  have hc : Chg (fun k => A.map (·.block) = some k) w w' := Chg.grown hg (fun k e => e)
  refine ⟨A', c', w', hrun, ⟨by simp [h.lef], ?_, fun j hj => ?_⟩, hc, fun k hk => ?_⟩
  · rw [List.length_append, frcs_app]
    exact ho
  · rw [List.length_append, List.length_singleton] at hj
    by_cases e : j < rs.length
    · have e1 : (rs ++ [r]).getD j FR.zero = rs.getD j FR.zero := by simp [List.getD_eq_getElem?_getD, List.getElem?_append_left e]
      have e2 : (fs ++ [f]).getD j Frg.zero = fs.getD j Frg.zero := by simp [List.getD_eq_getElem?_getD, List.getElem?_append_left (show j < fs.length by rw [h.lef]; exact e)]
      rw [e1, e2]
      exact ⟨fv_chg (h.fv j e).1 hc (fun k hk e3 => (hd k e3).1 j e hk), fun k hk => ⟨((h.fv j e).2 k hk).1, Nat.lt_of_lt_of_le ((h.fv j e).2 k hk).2 hc.size⟩⟩
    · have ej : j = rs.length := by omega
      subst ej
      have e1 : (rs ++ [r]).getD rs.length FR.zero = r := by simp [List.getD_eq_getElem?_getD]
      have e2 : (fs ++ [f]).getD rs.length Frg.zero = f := by rw [← h.lef]; simp [List.getD_eq_getElem?_getD]
      rw [e1, e2]
      exact ⟨fv_chg hf hc (fun k hk e3 => (hd k e3).2 hk), fun k hk => ⟨(hfl k hk).1, Nat.lt_of_lt_of_le (hfl k hk).2 hc.size⟩⟩
  · rcases hloc with e | e
    · rw [e] at hk; exact .inl hk
    · rw [e] at hk
      cases hk
      exact .inr rfl
end Go.Proofs.Ytejmmjedognaaaa

namespace Go.Proofs.Ytejmmjedognaaaa
open Go.RowKit
open St

/-- A copy that is being made: the regions done. -/
structure CdI (w : World) (D1 D2 : Nat) (r : DR) (d : Dmp) (rc : DR) (fs : List Frg) (wx : World) : Prop where
  be : Below D1 w wx
  x : Bx wx D1 rc
  z : Bx wx D2 DR.zero
  lt : D1 < D2
  y : FV wx rc.y d.y
  ylo : ∀ k, rc.y.A.map (·.block) = some k → D2 < k ∧ k < wx.heap.size
  o : FV wx rc.o d.o
  olo : ∀ k, rc.o.A.map (·.block) = some k → D2 < k ∧ k < wx.heap.size
  f : Rwf wx (D2 + 1) rc.F rc.fc rc.rs fs
  fm : rc.fm = rc.rs.length
  dis : ∀ k, rc.F.map (·.block) = some k → ∀ i, i < rc.rs.length → (rc.rs.getD i FR.zero).A.map (·.block) ≠ some k
  disy : ∀ k, rc.F.map (·.block) = some k → rc.y.A.map (·.block) ≠ some k ∧ rc.o.A.map (·.block) ≠ some k
  rest : rc.size = r.size ∧ rc.mark = r.mark ∧ rc.R = r.R ∧ rc.rm = r.rm ∧ rc.rc = r.rc ∧ rc.H = r.H ∧ rc.hm = r.hm ∧ rc.hc = r.hc
set_option maxRecDepth 100000 in
theorem CdI.drewN {w wx : World} {D1 D2 : Nat} {r : DR} {d : Dmp} {rc : DR} {fs : List Frg} (h : CdI w D1 D2 r d rc fs wx) (q : Nat) : CdI w D1 D2 r d rc fs (wx.drewN q) :=
  ⟨⟨h.be.os, h.be.tape, h.be.output, h.be.size, h.be.block⟩, h.x.drewN q, h.z.drewN q, h.lt, h.y.drewN q, h.ylo, h.o.drewN q, h.olo, ⟨h.f.lef, h.f.row, fun i hi => ⟨(h.f.fv i hi).1.drewN q, (h.f.fv i hi).2⟩⟩, h.fm, h.dis, h.disy, h.rest⟩

/-- One more region is laid: what the two appends and the store leave. -/
def CpP (w : World) (D1 D2 : Nat) (r : DR) (d : Dmp) (rc : DR) (fs : List Frg) (wx : World) (fr : FR) (A4 : Option Addr) (c4 : Nat) (w4 : World) (A6 : Option Addr) (c6 : Nat) (w6 : World) (f : Frg) : Prop :=
  (Builtin.append_ #[27, 27] 27 #[.slice none 0 0, .slice fr.A fr.n fr.c]).run Try.prog wx = .ok (.slice A4 fr.n c4) w4 ∧
  (Builtin.append_ #[30, 30] 30 #[.slice rc.F rc.fm rc.fc, .slice (some ⟨w4.heap.size, 0, none⟩) 1 1]).run Try.prog (w4.alloc (.cells #[.int .i64 fr.at_, .slice A4 fr.n c4] 29)) = .ok (.slice A6 (rc.fm + 1) c6) w6 ∧
  ((Bx w4 D1 rc ∧ Below D1 w w4) ∧ Bx w6 D1 rc) ∧
  CdI w D1 D2 r d { rc with F := A6, fm := rc.fm + 1, fc := c6, rs := rc.rs ++ [⟨fr.at_, A4, fr.n, c4⟩] } (fs ++ [f]) (w6.setCell ⟨D1, 6, none⟩ (.slice A6 (rc.fm + 1) c6))
set_option maxRecDepth 100000 in
theorem cp_prep {w wx : World} {D1 D2 : Nat} {r : DR} {d : Dmp} {rc : DR} {fs : List Frg} (h : CdI w D1 D2 r d rc fs wx) (hn : rc.rs.length ≤ 1000) (fr : FR) (f : Frg) (hf : FV wx fr f) (hfn : fr.n ≤ 1000) :
    ∃ A4 c4 w4 A6 c6 w6, CpP w D1 D2 r d rc fs wx fr A4 c4 w4 A6 c6 w6 f := by
  obtain ⟨A4, c4, w4, run4, z4, b4, l4⟩ := zs_copy und_ws ie_u hf.ws (by omega) 27
  have hz1 := h.x.lt
  have hz2 := h.z.lt
  have hlt := h.lt
  have k4 : Chg (fun _ => False) wx w4 := .below b4
  have b5 : Below w4.heap.size w4 (w4.alloc (.cells #[.int .i64 fr.at_, .slice A4 fr.n c4] 29)) := (Below.refl _ w4).alloc (Nat.le_refl _) _
  have k5 : Chg (fun _ => False) wx (w4.alloc (.cells #[.int .i64 fr.at_, .slice A4 fr.n c4] 29)) := k4.trans (.below b5) (fun _ _ h => h)
  have f5 := rwf_chg h.f k5 (fun k h => h.elim)
  have hsz : D2 + 1 ≤ (w4.alloc (.cells #[.int .i64 fr.at_, .slice A4 fr.n c4] 29)).heap.size := Nat.le_trans hz2 k5.size
  have v5 : FV (w4.alloc (.cells #[.int .i64 fr.at_, .slice A4 fr.n c4] 29)) ⟨fr.at_, A4, fr.n, c4⟩ f := ⟨hf.at_, hf.wf, z4.below b5⟩
  have hcell : ∀ j, j < 2 → (w4.alloc (.cells #[.int .i64 fr.at_, .slice A4 fr.n c4] 29)).cell? ⟨w4.heap.size, j, none⟩ = (#[Value.int .i64 fr.at_, .slice A4 fr.n c4] : Array Value)[j]? := fun j hj => cell_of_row _ w4.heap.size j _ _ (0, 0) (heap_alloc_new w4 _)
  obtain ⟨A6, c6, w6, run6, f6, k6, l6⟩ := rwf_app f5 hsz hn w4.heap.size ⟨fr.at_, A4, fr.n, c4⟩ f v5 (fun k hk => ⟨by have := l4 k hk; omega, Nat.lt_of_lt_of_le (l4 k hk).2 b5.size⟩) (fun k hk => ⟨fun i hi => h.dis k hk i hi, fun e => by
    have h1 := l4 k e
    have h2 := (rwf_lo h.f hk).2
    omega⟩) (hcell 0 (by omega)) (hcell 1 (by omega)) 30
  have hA : ∀ k, rc.F.map (·.block) = some k → D2 < k := fun k hk => (rwf_lo h.f hk).1
  have nD1 : ¬ (fun k => rc.F.map (·.block) = some k) D1 := fun e => by have := hA D1 e; omega
  have nD2 : ¬ (fun k => rc.F.map (·.block) = some k) D2 := fun e => by have := hA D2 e; omega
  have x4 := h.x.chg k4 (fun h => h)
  have k56 : Chg (fun k => rc.F.map (·.block) = some k) wx w6 := (k5.mono (fun _ _ h => h.elim)).trans k6 (fun _ _ h => h)
  have x6 := h.x.chg k56 nD1
  have z6 := h.z.chg k56 nD2
  have k7 : Chg (fun k => k = D1) w6 (w6.setCell ⟨D1, 6, none⟩ (.slice A6 (rc.fm + 1) c6)) := (Chg.refl (fun k => k = D1) w6).setCell (p := ⟨D1, 6, none⟩) (.inl rfl) _
  rw [← h.fm] at run6
  refine ⟨A4, c4, w4, A6, c6, w6, run4, run6, ⟨⟨x4, h.be.trans (b4.mono (by omega))⟩, x6⟩, ?_⟩
  have hsz6 : (w6.setCell ⟨D1, 6, none⟩ (.slice A6 (rc.fm + 1) c6)).heap.size = w6.heap.size := by simp
  have y6 := fv_chg h.y k56 (fun k hk e => (h.disy k e).1 hk)
  have o6 := fv_chg h.o k56 (fun k hk e => (h.disy k e).2 hk)
  have hln : (rc.rs ++ [(⟨fr.at_, A4, fr.n, c4⟩ : FR)]).length = rc.rs.length + 1 := by simp
  refine ⟨h.be.trans ((k56.toBelow (fun k e => by have := hA k e; omega) (Nat.le_of_lt hz1)).trans (k7.toBelow (fun k e => by omega) (Nat.le_trans (Nat.le_of_lt hz1) k56.size))), x6.set6 A6 (rc.fm + 1) c6 (rc.rs ++ [⟨fr.at_, A4, fr.n, c4⟩]), z6.chg k7 (by omega), h.lt, fv_chg y6 k7 (fun k hk e => by have := (h.ylo k hk).1; omega), fun k hk => ⟨(h.ylo k hk).1, by rw [hsz6]; exact Nat.lt_of_lt_of_le (h.ylo k hk).2 k56.size⟩,
    fv_chg o6 k7 (fun k hk e => by have := (h.olo k hk).1; omega), fun k hk => ⟨(h.olo k hk).1, by rw [hsz6]; exact Nat.lt_of_lt_of_le (h.olo k hk).2 k56.size⟩, rwf_chg f6 k7 (fun k e => by omega), by simp [h.fm], fun k hk i hi => ?_, fun k hk => ?_, h.rest⟩
  · rw [hln] at hi
    by_cases e : i < rc.rs.length
    · have e1 : (rc.rs ++ [(⟨fr.at_, A4, fr.n, c4⟩ : FR)]).getD i FR.zero = rc.rs.getD i FR.zero := by simp [List.getD_eq_getElem?_getD, List.getElem?_append_left e]
      rw [e1]
      rcases l6 k hk with e2 | e2
      · exact h.dis k e2 i e
      · intro e3
        have := ((h.f.fv i e).2 k e3).2
        have := k5.size
        omega
    · have ei : i = rc.rs.length := by omega
      subst ei
      have e1 : (rc.rs ++ [(⟨fr.at_, A4, fr.n, c4⟩ : FR)]).getD rc.rs.length FR.zero = ⟨fr.at_, A4, fr.n, c4⟩ := by simp [List.getD_eq_getElem?_getD]
      rw [e1]
      intro e3
      have h3 := l4 k e3
      rcases l6 k hk with e2 | e2
      · have := (rwf_lo h.f e2).2
        omega
      · have := b5.size
        omega
  · rcases l6 k hk with e2 | e2
    · exact h.disy k e2
    · refine ⟨fun e3 => ?_, fun e3 => ?_⟩
      · have := (h.ylo k e3).2
        have := k5.size
        omega
      · have := (h.olo k e3).2
        have := k5.size
        omega
end Go.Proofs.Ytejmmjedognaaaa

namespace Go.Proofs.Ytejmmjedognaaaa
open Go.RowKit
open St

set_option maxRecDepth 100000 in
theorem take_fg {fs : List Frg} {i : Nat} (h : i < fs.length) : fs.take (i + 1) = fs.take i ++ [fs.getD i Frg.zero] := by
  rw [List.take_add_one, List.getElem?_eq_getElem h]
  simp [h]

set_option maxRecDepth 100000 in
theorem chg9 (w : World) (D : Nat) (v0 v1 v2 v3 v4 v5 v6 v7 v8 : Value) : Chg (fun k => k = D) w (((((((((w.setCell ⟨D, 0, none⟩ v0).setCell ⟨D, 1, none⟩ v1).setCell ⟨D, 2, none⟩ v2).setCell ⟨D, 3, none⟩ v3).setCell ⟨D, 4, none⟩ v4).setCell ⟨D, 5, none⟩ v5).setCell ⟨D, 6, none⟩ v6).setCell ⟨D, 7, none⟩ v7).setCell ⟨D, 8, none⟩ v8) :=
  (((((((((Chg.refl (fun k => k = D) w).setCell (p := ⟨D, 0, none⟩) (.inl rfl) _).setCell (p := ⟨D, 1, none⟩) (.inl rfl) _).setCell (p := ⟨D, 2, none⟩) (.inl rfl) _).setCell (p := ⟨D, 3, none⟩) (.inl rfl) _).setCell (p := ⟨D, 4, none⟩) (.inl rfl) _).setCell (p := ⟨D, 5, none⟩) (.inl rfl) _).setCell (p := ⟨D, 6, none⟩) (.inl rfl) _).setCell (p := ⟨D, 7, none⟩) (.inl rfl) _).setCell (p := ⟨D, 8, none⟩) (.inl rfl) _
/-- A dump whose rows are one's own, from B on. -/
structure DOw (B : Nat) (w : World) (rc : DR) (d : Dmp) : Prop where
  y : FV w rc.y d.y
  ylo : ∀ k, rc.y.A.map (·.block) = some k → B ≤ k
  o : FV w rc.o d.o
  olo : ∀ k, rc.o.A.map (·.block) = some k → B ≤ k
  f : Rwf w B rc.F rc.fc rc.rs d.fs
  fm : rc.fm = rc.rs.length
set_option maxRecDepth 100000 in
theorem dow_chg {B : Nat} {w w' : World} {rc : DR} {d : Dmp} {K : Nat → Prop} (h : DOw B w rc d) (hc : Chg K w w') (hk : ∀ k, K k → k < B) : DOw B w' rc d :=
  ⟨fv_chg h.y hc (fun k e e2 => by have := h.ylo k e; have := hk k e2; omega), h.ylo, fv_chg h.o hc (fun k e e2 => by have := h.olo k e; have := hk k e2; omega), h.olo, rwf_chg h.f hc hk, h.fm⟩

/-- What CopyDump answers. -/
def CdP (w : World) (d : Dmp) (e : Ending) (w' : World) : Prop :=
  ∃ r', e = .returned (.agg #[.int .i64 r'.y.at_, .slice r'.y.A r'.y.n r'.y.c, .int .i64 r'.o.at_, .slice r'.o.A r'.o.n r'.o.c, .int .i64 r'.size, .int .i64 r'.mark, .slice r'.F r'.fm r'.fc, .slice r'.R r'.rm r'.rc, .slice r'.H r'.hm r'.hc]) ∧ DV w' r' d ∧ Below w.heap.size w w'

end Go.Proofs.Ytejmmjedognaaaa
