/-
  DUMPS that came in.
  DUMPS: GreatDump, GreatSlots, SameWords, SameInts, SameFrag, SameDump of what is the same.
  DUMPS: a dump in a variable; SameDump of what is the same; GreatDump; GreatSlots.
  DUMPS: GreatDump, GreatSlots.
  DUMPS: copies of rows; CopyDump.
-/
import Derived.Test.YtejmmjedognaaaaQ1
import Derived.OpenShut
import Derived.ProofKit
import Derived.Lib.SmallJoins
import Derived.Deep.RegionHeld3
import Derived.Deep.CutBlock
import Derived.Deep.CutRange
import Derived.Laws.OwnMore
namespace Go.Proofs.Ytejmmjedognaaaa
open Go.RowKit Go.ChangeShapes Go.WideShapes
open St

namespace Lk
set_option maxRecDepth 100000 in
theorem addN (b o : Nat) (j : Nat) : (⟨b, o, none⟩ : Addr).add j = ⟨b, o + j, none⟩ := by unfold Addr.add; split <;> simp_all
set_option maxRecDepth 100000 in
theorem cells_i : Try.prog.cellsOf 3 = 1 := by kernel_rfl
set_option maxRecDepth 100000 in
theorem cells_s : Try.prog.cellsOf 9 = 1 := by kernel_rfl
set_option maxRecDepth 100000 in
theorem cells_ws : Try.prog.cellsOf 27 = 1 := by kernel_rfl
set_option maxRecDepth 100000 in
theorem cells_is : Try.prog.cellsOf 31 = 1 := by kernel_rfl
set_option maxRecDepth 100000 in
theorem cells_fs : Try.prog.cellsOf 30 = 1 := by kernel_rfl
set_option maxRecDepth 100000 in
theorem cells_frag : Try.prog.cellsOf 29 = 2 := by kernel_rfl
set_option maxRecDepth 100000 in
theorem cells_dump : Try.prog.cellsOf 33 = 9 := by kernel_rfl
set_option maxRecDepth 100000 in
theorem cells_slot : Try.prog.cellsOf 112 = 3 := by kernel_rfl
set_option maxRecDepth 100000 in
theorem list2 {α : Type} {cs : List α} (h : cs.length = 2) : ∃ c0 c1, cs = [c0, c1] := by
  match cs, h with
  | [c0, c1], _ => exact ⟨c0, c1, rfl⟩
set_option maxRecDepth 100000 in
theorem list3 {α : Type} {cs : List α} (h : cs.length = 3) : ∃ c0 c1 c2, cs = [c0, c1, c2] := by
  match cs, h with
  | [c0, c1, c2], _ => exact ⟨c0, c1, c2, rfl⟩
set_option maxRecDepth 100000 in
theorem list9 {α : Type} {cs : List α} (h : cs.length = 9) : ∃ c0 c1 c2 c3 c4 c5 c6 c7 c8, cs = [c0, c1, c2, c3, c4, c5, c6, c7, c8] := by
  match cs, h with
  | [c0, c1, c2, c3, c4, c5, c6, c7, c8], _ => exact ⟨c0, c1, c2, c3, c4, c5, c6, c7, c8, rfl⟩

variable {H : Type} {enc : TypeId × Value → H} {W : World}

set_option maxRecDepth 100000 in
theorem open_zs {q : IntKind} {t e : TypeId} (ht : Try.prog.underlying t = some (.slice e)) (he : Try.prog.underlying e = some (.int q)) (hce : Try.prog.cellsOf e = 1) {fuel : Nat} {cs : List Value} {x : DataW H × List MemPlace}
    (h : DataW.trod enc Try.prog W 0 (fun _ => true) true fuel t cs = some x) : ∃ (A : Option Addr) (n c : Nat) (zs : List Int), cs = [.slice A n c] ∧ Zs q W A n c zs := by
  rcases open_ints ht he hce h with ⟨e1, _⟩ | ⟨a, len, cap, zs, e1, _, hl, hm, hz, _, hcell, hwz⟩
  · exact ⟨none, 0, 0, [], e1, Zs.nil q W⟩
  · simp only [if_true] at hz
    refine ⟨some a, len, cap, zs.take len, e1, by rw [List.length_take]; omega, hl, hm, fun z hz' => hwz z (List.mem_of_mem_take hz'), fun hn => ?_⟩
    have h0 := hcell 0 (by omega)
    have hspot : a.spot = none := by
      have := World.cell?_spot h0
      simpa [Addr.add] using this
    obtain ⟨b, o, sp⟩ := a
    simp only at hspot
    subst hspot
    refine ⟨b, o, rfl, ?_, fun j hj => ?_⟩
    · have := World.block_lt_of_cell? W _ h0
      rw [addN] at this
      exact this
    · have := hcell j (by omega)
      rw [addN] at this
      rw [this]
      congr 2
      rw [List.getD_eq_getElem?_getD, List.getD_eq_getElem?_getD, List.getElem?_take_of_lt hj]

set_option maxRecDepth 100000 in
theorem open_frag {fuel : Nat} {cs : List Value} {x : DataW H × List MemPlace} (h : DataW.trod enc Try.prog W 0 (fun _ => true) true fuel 29 cs = some x) : ∃ (r : FR) (f : Frg), cs = r.cells ∧ FV W r f := by
  obtain ⟨xs, n, hfu, _, hcl, hxl, hf⟩ := DataW.trod_struct Try.underlying29 h
  rw [cells_frag] at hcl
  obtain ⟨c0, c1, rfl⟩ := list2 hcl
  have get : ∀ i, i < 2 → ∃ y, xs[i]? = some y := fun i hi => ⟨_, List.getElem?_eq_getElem (by rw [hxl]; exact hi)⟩
  have f0 : DataW.trod enc Try.prog W 0 (fun _ => true) true n 3 [c0] = xs[0]? := by simpa [cells_i] using hf 0 _ rfl
  have f1 : DataW.trod enc Try.prog W 0 (fun _ => true) true n 27 [c1] = xs[1]? := by simpa [cells_i, cells_ws] using hf 1 _ rfl
  obtain ⟨y0, e0⟩ := get 0 (by omega)
  obtain ⟨y1, e1⟩ := get 1 (by omega)
  rw [e0] at f0; rw [e1] at f1
  obtain ⟨k, q0, _, w0⟩ := DataW.trod_int Try.underlying3 f0
  obtain ⟨A, m, c, ws, q1, hz⟩ := open_zs (q := .u64) Try.underlying27 Try.underlying24 (by kernel_rfl) f1
  simp only [List.cons.injEq, and_true] at q0 q1
  subst q0 q1
  exact ⟨⟨k, A, m, c⟩, ⟨k, ws⟩, rfl, rfl, w0, hz⟩

set_option maxRecDepth 100000 in
theorem open_frags {fuel : Nat} {cs : List Value} {x : DataW H × List MemPlace} (h : DataW.trod enc Try.prog W 0 (fun _ => true) true fuel 30 cs = some x) :
    ∃ (A : Option Addr) (m c : Nat) (rs : List FR) (fs : List Frg), cs = [.slice A m c] ∧ FVs W A m c rs fs := by
  rcases DataW.trod_slice Try.underlying30 h with ⟨h0, _⟩ | ⟨a, len, cap, elems, rest, n', hfu, hcs, _, hb, hl, hm, hlen, hel, _, _⟩
  · exact ⟨none, 0, 0, [], [], h0, rfl, rfl, Nat.le_refl _, Nat.zero_le _, fun h => by omega, fun i h => by omega⟩
  · rw [cells_frag] at hel
    have each : ∀ i, i < len → ∃ y : FR × Frg, (∀ j, j < 2 → W.cell? ((a.add (i * 2)).add j) = y.1.cells[j]?) ∧ FV W y.1 y.2 := fun i hi => by
      have h1 := hel i hi
      rw [List.getElem?_eq_getElem (by omega)] at h1
      obtain ⟨cs', h2, h3⟩ := Option.bind_eq_some_iff.1 h1
      obtain ⟨r, f, rfl, hy⟩ := open_frag h3
      obtain ⟨_, _, h4⟩ := World.cells?_some h2
      exact ⟨⟨r, f⟩, h4, hy⟩
    obtain ⟨F, hF⟩ := Go.Deep.choose_lt (α := FR × Frg) each
    have hr : ∀ i, i < len → ((List.range len).map fun i => (F i).1).getD i FR.zero = (F i).1 := fun i hi => by simp [hi]
    have hg : ∀ i, i < len → ((List.range len).map fun i => (F i).2).getD i Frg.zero = (F i).2 := fun i hi => by simp [hi]
    refine ⟨some a, len, cap, (List.range len).map fun i => (F i).1, (List.range len).map fun i => (F i).2, hcs, by simp, by simp, hl, hm, fun hn => ?_, fun i hi => by rw [hr i hi, hg i hi]; exact (hF i hi).2⟩
    have h0 := (hF 0 hn).1 0 (by omega)
    have h0' : W.cell? ((a.add (0 * 2)).add 0) = some (.int .i64 (F 0).1.at_) := h0
    have hspot : a.spot = none := by
      have := World.cell?_spot h0'
      simpa [Addr.add] using this
    obtain ⟨b, o, sp⟩ := a
    simp only at hspot
    subst hspot
    refine ⟨b, o, rfl, ?_, fun i hi j hj => ?_⟩
    · have := World.block_lt_of_cell? W _ h0'
      rw [addN, addN] at this
      exact this
    · have := (hF i hi).1 j hj
      rw [addN, addN] at this
      rw [hr i hi]
      exact this

set_option maxRecDepth 100000 in
theorem open_slot {fuel : Nat} {cs : List Value} {x : DataW H × List MemPlace} (h : DataW.trod enc Try.prog W 0 (fun _ => true) true fuel 112 cs = some x) : ∃ s : Slt, cs = sltCells s ∧ (Lit.int .i64 s.st).wf = true ∧ (Lit.int .i64 s.ct).wf = true ∧ s.tx.size ≤ maxLen := by
  obtain ⟨xs, n, hfu, _, hcl, hxl, hf⟩ := DataW.trod_struct Try.underlying112 h
  rw [cells_slot] at hcl
  obtain ⟨c0, c1, c2, rfl⟩ := list3 hcl
  have get : ∀ i, i < 3 → ∃ y, xs[i]? = some y := fun i hi => ⟨_, List.getElem?_eq_getElem (by rw [hxl]; exact hi)⟩
  have f0 : DataW.trod enc Try.prog W 0 (fun _ => true) true n 3 [c0] = xs[0]? := by simpa [cells_i] using hf 0 _ rfl
  have f1 : DataW.trod enc Try.prog W 0 (fun _ => true) true n 3 [c1] = xs[1]? := by simpa [cells_i] using hf 1 _ rfl
  have f2 : DataW.trod enc Try.prog W 0 (fun _ => true) true n 9 [c2] = xs[2]? := by simpa [cells_i, cells_s] using hf 2 _ rfl
  obtain ⟨y0, e0⟩ := get 0 (by omega)
  obtain ⟨y1, e1⟩ := get 1 (by omega)
  obtain ⟨y2, e2⟩ := get 2 (by omega)
  rw [e0] at f0; rw [e1] at f1; rw [e2] at f2
  obtain ⟨k, q0, _, w0⟩ := DataW.trod_int Try.underlying3 f0
  obtain ⟨m, q1, _, w1⟩ := DataW.trod_int Try.underlying3 f1
  obtain ⟨s, q2, _, w2⟩ := DataW.trod_string Try.underlying9 f2
  simp only [List.cons.injEq, and_true] at q0 q1 q2
  subst q0 q1 q2
  exact ⟨⟨k, m, s⟩, rfl, w0, w1, w2⟩
set_option maxRecDepth 100000 in
theorem open_slots {v : Value} {d : DataW H} {p : List MemPlace} (hv : ∃ a n c, v = .slice a n c) (h : DataW.Trod enc Try.prog W 0 (fun _ => true) true 48 v d p) :
    ∃ (A : Option Addr) (m c : Nat) (L : List Slt), v = .slice A m c ∧ SLs W A m c L := by
  obtain ⟨a, n, c, rfl⟩ := hv
  obtain ⟨fuel, hf⟩ := h
  have hf' : DataW.trod enc Try.prog W 0 (fun _ => true) true fuel 48 [.slice a n c] = some (d, p) := by simpa [Value.cells] using hf
  rcases DataW.trod_slice Try.underlying48 hf' with ⟨h0, _⟩ | ⟨a, len, cap, elems, rest, n', hfu, hcs, _, hb, hl, hm, hlen, hel, _, _⟩
  · simp only [List.cons.injEq, and_true] at h0
    cases h0
    exact ⟨none, 0, 0, [], rfl, rfl, Nat.le_refl _, Nat.zero_le _, fun i hi => by omega, fun h => by omega⟩
  · simp only [List.cons.injEq, and_true] at hcs
    cases hcs
    rw [cells_slot] at hel
    have each : ∀ i, i < n → ∃ y : Slt, (∀ j, j < 3 → W.cell? ((a.add (i * 3)).add j) = (sltCells y)[j]?) ∧ (Lit.int .i64 y.st).wf = true ∧ (Lit.int .i64 y.ct).wf = true ∧ y.tx.size ≤ maxLen := fun i hi => by
      have h1 := hel i hi
      rw [List.getElem?_eq_getElem (by omega)] at h1
      obtain ⟨cs', h2, h3⟩ := Option.bind_eq_some_iff.1 h1
      obtain ⟨y, rfl, hy⟩ := open_slot h3
      obtain ⟨_, _, h4⟩ := World.cells?_some h2
      exact ⟨y, h4, hy⟩
    obtain ⟨F, hF⟩ := Go.Deep.choose_lt (α := Slt) each
    have hag : ∀ i, i < n → gt ((List.range n).map F) i = F i := fun i hi => by simp [gt, hi]
    refine ⟨some a, n, c, (List.range n).map F, rfl, by simp, hl, hm, fun i hi => by rw [hag i hi]; exact (hF i hi).2, fun hn => ?_⟩
    have h0 := (hF 0 hn).1 0 (by omega)
    have h0' : W.cell? ((a.add (0 * 3)).add 0) = some (.int .i64 (F 0).st) := h0
    have hspot : a.spot = none := by
      have := World.cell?_spot h0'
      simpa [Addr.add] using this
    obtain ⟨b, o, sp⟩ := a
    simp only at hspot
    subst hspot
    refine ⟨b, o, rfl, ?_, fun i hi j hj => ?_⟩
    · have := World.block_lt_of_cell? W _ h0'
      rw [addN, addN] at this
      exact this
    · have := (hF i hi).1 j hj
      rw [addN, addN] at this
      rw [hag i hi]
      exact this

set_option maxRecDepth 100000 in
set_option maxRecDepth 100000 in
theorem open_dump {base : Nat} {v : Value} {d : DataW H} {p : List MemPlace} (hv : Value.okWide Try.prog W .any base 33 v) (h : DataW.Trod enc Try.prog W 0 (fun _ => true) true 33 v d p) :
    ∃ (r : DR) (m : Dmp), v = r.val ∧ DV W r m := by
  obtain ⟨cs, rfl, hsz⟩ := okWide_struct Try.underlying33 hv
  obtain ⟨fuel, hf⟩ := h
  have hf' : DataW.trod enc Try.prog W 0 (fun _ => true) true fuel 33 cs.toList = some (d, p) := by simpa [Value.cells] using hf
  obtain ⟨xs, n, hfu, _, hcl, hxl, hf⟩ := DataW.trod_struct Try.underlying33 hf'
  rw [cells_dump] at hcl
  obtain ⟨c0, c1, c2, c3, c4, c5, c6, c7, c8, hcs⟩ := list9 hcl
  rw [hcs] at hf
  have get : ∀ i, i < 7 → ∃ y, xs[i]? = some y := fun i hi => ⟨_, List.getElem?_eq_getElem (by rw [hxl]; exact hi)⟩
  have f0 : DataW.trod enc Try.prog W 0 (fun _ => true) true n 29 [c0, c1] = xs[0]? := by simpa [cells_frag] using hf 0 _ rfl
  have f1 : DataW.trod enc Try.prog W 0 (fun _ => true) true n 29 [c2, c3] = xs[1]? := by simpa [cells_frag] using hf 1 _ rfl
  have f2 : DataW.trod enc Try.prog W 0 (fun _ => true) true n 3 [c4] = xs[2]? := by simpa [cells_frag, cells_i] using hf 2 _ rfl
  have f3 : DataW.trod enc Try.prog W 0 (fun _ => true) true n 3 [c5] = xs[3]? := by simpa [cells_frag, cells_i] using hf 3 _ rfl
  have f4 : DataW.trod enc Try.prog W 0 (fun _ => true) true n 30 [c6] = xs[4]? := by simpa [cells_frag, cells_i, cells_fs] using hf 4 _ rfl
  have f5 : DataW.trod enc Try.prog W 0 (fun _ => true) true n 27 [c7] = xs[5]? := by simpa [cells_frag, cells_i, cells_fs, cells_ws] using hf 5 _ rfl
  have f6 : DataW.trod enc Try.prog W 0 (fun _ => true) true n 31 [c8] = xs[6]? := by simpa [cells_frag, cells_i, cells_fs, cells_ws, cells_is] using hf 6 _ rfl
  obtain ⟨y0, e0⟩ := get 0 (by omega)
  obtain ⟨y1, e1⟩ := get 1 (by omega)
  obtain ⟨y2, e2⟩ := get 2 (by omega)
  obtain ⟨y3, e3⟩ := get 3 (by omega)
  obtain ⟨y4, e4⟩ := get 4 (by omega)
  obtain ⟨y5, e5⟩ := get 5 (by omega)
  obtain ⟨y6, e6⟩ := get 6 (by omega)
  rw [e0] at f0; rw [e1] at f1; rw [e2] at f2; rw [e3] at f3; rw [e4] at f4; rw [e5] at f5; rw [e6] at f6
  obtain ⟨ry, fy, q0, vy⟩ := open_frag f0
  obtain ⟨ro, fo, q1, vo⟩ := open_frag f1
  obtain ⟨sz, q2, _, w2⟩ := DataW.trod_int Try.underlying3 f2
  obtain ⟨mk, q3, _, w3⟩ := DataW.trod_int Try.underlying3 f3
  obtain ⟨F, fm, fc, rs, fs, q4, vf⟩ := open_frags f4
  obtain ⟨R, rm, rc, ws, q5, vr⟩ := open_zs (q := .u64) Try.underlying27 Try.underlying24 (by kernel_rfl) f5
  obtain ⟨Hh, hm, hc, hs, q6, vh⟩ := open_zs (q := .i64) Try.underlying31 Try.underlying3 (by kernel_rfl) f6
  simp only [FR.cells, List.cons.injEq, and_true] at q0 q1 q2 q3 q4 q5 q6
  obtain ⟨rfl, rfl⟩ := q0
  obtain ⟨rfl, rfl⟩ := q1
  subst q2 q3 q4 q5 q6
  refine ⟨⟨ry, ro, sz, mk, F, fm, fc, R, rm, rc, Hh, hm, hc, rs⟩, ⟨fy, fo, sz, mk, fs, ws, hs⟩, ?_, vy, vo, rfl, rfl, w2, w3, vf, vr, vh⟩
  unfold DR.val
  congr 1
  apply Array.ext'
  rw [hcs]
end Lk
end Go.Proofs.Ytejmmjedognaaaa

namespace Go.Proofs.Ytejmmjedognaaaa
open Go.RowKit
open St

set_option maxRecDepth 100000 in
theorem wf_i {z : Int} (h : (Lit.int .i64 z).wf = true) : -9223372036854775808 ≤ z ∧ z ≤ 9223372036854775807 := by
  simp [Lit.wf, IntKind.min, IntKind.max, IntKind.signed, IntKind.bits] at h
  omega
set_option maxRecDepth 100000 in
theorem wf_u {z : Int} (h : (Lit.int .u64 z).wf = true) : 0 ≤ z ∧ z ≤ 18446744073709551615 := by
  simp [Lit.wf, IntKind.min, IntKind.max, IntKind.signed, IntKind.bits] at h
  omega

set_option maxRecDepth 100000 in
theorem bel_drewN (w : World) (q : Nat) : Below w.heap.size w (w.drewN q) := ⟨rfl, rfl, rfl, Nat.le_refl _, fun _ _ => rfl⟩
end Go.Proofs.Ytejmmjedognaaaa

namespace Go.Proofs.Ytejmmjedognaaaa
open Go.RowKit
open St

/-- A dump in a variable. -/
structure Bx (w : World) (D : Nat) (r : DR) : Prop where
  blk : w.heap[D]? = some (.cells #[.int .i64 r.y.at_, .slice r.y.A r.y.n r.y.c, .int .i64 r.o.at_, .slice r.o.A r.o.n r.o.c, .int .i64 r.size, .int .i64 r.mark, .slice r.F r.fm r.fc, .slice r.R r.rm r.rc, .slice r.H r.hm r.hc] 33 (0, 0))
namespace Bx
variable {w w' : World} {D : Nat} {r : DR}
set_option maxRecDepth 100000 in
theorem lt (h : Bx w D r) : D < w.heap.size := (Array.getElem?_eq_some_iff.1 h.blk).1
set_option maxRecDepth 100000 in
theorem below (h : Bx w D r) {B : Nat} (hb : Below B w w') (hB : D < B) : Bx w' D r := ⟨(hb.block D hB).trans h.blk⟩
set_option maxRecDepth 100000 in
theorem drewN (h : Bx w D r) (q : Nat) : Bx (w.drewN q) D r := ⟨h.blk⟩
set_option maxRecDepth 100000 in
theorem c0 (h : Bx w D r) : w.cell? ⟨D, 0, none⟩ = some (.int .i64 r.y.at_) := (cell_of_row w D 0 _ _ (0, 0) h.blk).trans rfl
set_option maxRecDepth 100000 in
theorem c1 (h : Bx w D r) : w.cell? ⟨D, 1, none⟩ = some (.slice r.y.A r.y.n r.y.c) := (cell_of_row w D 1 _ _ (0, 0) h.blk).trans rfl
set_option maxRecDepth 100000 in
theorem c2 (h : Bx w D r) : w.cell? ⟨D, 2, none⟩ = some (.int .i64 r.o.at_) := (cell_of_row w D 2 _ _ (0, 0) h.blk).trans rfl
set_option maxRecDepth 100000 in
theorem c3 (h : Bx w D r) : w.cell? ⟨D, 3, none⟩ = some (.slice r.o.A r.o.n r.o.c) := (cell_of_row w D 3 _ _ (0, 0) h.blk).trans rfl
set_option maxRecDepth 100000 in
theorem c4 (h : Bx w D r) : w.cell? ⟨D, 4, none⟩ = some (.int .i64 r.size) := (cell_of_row w D 4 _ _ (0, 0) h.blk).trans rfl
set_option maxRecDepth 100000 in
theorem c5 (h : Bx w D r) : w.cell? ⟨D, 5, none⟩ = some (.int .i64 r.mark) := (cell_of_row w D 5 _ _ (0, 0) h.blk).trans rfl
set_option maxRecDepth 100000 in
theorem c6 (h : Bx w D r) : w.cell? ⟨D, 6, none⟩ = some (.slice r.F r.fm r.fc) := (cell_of_row w D 6 _ _ (0, 0) h.blk).trans rfl
set_option maxRecDepth 100000 in
theorem c7 (h : Bx w D r) : w.cell? ⟨D, 7, none⟩ = some (.slice r.R r.rm r.rc) := (cell_of_row w D 7 _ _ (0, 0) h.blk).trans rfl
set_option maxRecDepth 100000 in
theorem c8 (h : Bx w D r) : w.cell? ⟨D, 8, none⟩ = some (.slice r.H r.hm r.hc) := (cell_of_row w D 8 _ _ (0, 0) h.blk).trans rfl
end Bx

/-- Two variables with the same dump. -/
structure SdI (w : World) (D1 D2 : Nat) (r r' : DR) (d : Dmp) (w' : World) : Prop where
  v : DV w' r d
  v' : DV w' r' d
  x : Bx w' D1 r
  z : Bx w' D2 r'
  be : Below D1 w w'
  lt : D1 < D2
set_option maxRecDepth 100000 in
theorem SdI.below {w w' w'' : World} {D1 D2 : Nat} {r r' : DR} {d : Dmp} (h : SdI w D1 D2 r r' d w') (hb : Below w'.heap.size w' w'') : SdI w D1 D2 r r' d w'' :=
  ⟨h.v.below hb, h.v'.below hb, h.x.below hb h.x.lt, h.z.below hb h.z.lt, h.be.trans (hb.mono (by have := h.x.lt; omega)), h.lt⟩
set_option maxRecDepth 100000 in
theorem SdI.drewN {w w' : World} {D1 D2 : Nat} {r r' : DR} {d : Dmp} (h : SdI w D1 D2 r r' d w') (q : Nat) : SdI w D1 D2 r r' d (w'.drewN q) := h.below (bel_drewN _ q)

end Go.Proofs.Ytejmmjedognaaaa

namespace Go.Proofs.Ytejmmjedognaaaa
open Go.RowKit
open St

/-- A dump that is gone through. -/
structure Sm (r : DR) : Prop where
  y : r.y.n ≤ 60
  o : r.o.n ≤ 60
  fm : r.fm ≤ 6
  rm : r.rm ≤ 100
  hm : r.hm ≤ 60
  fs : ∀ i, i < r.fm → (r.rs.getD i FR.zero).n ≤ 60

/-- A bool that is true, or P holds. -/
def GrP (P : Prop) (e : Ending) : Prop := ∃ g, e = .returned (.bool g) ∧ (g = false → P)

end Go.Proofs.Ytejmmjedognaaaa

namespace Go.Proofs.Ytejmmjedognaaaa
open Go.RowKit
open St

set_option maxRecDepth 100000 in
theorem zs_chg {q : IntKind} {w w' : World} {A : Option Addr} {n c : Nat} {zs : List Int} {K : Nat → Prop} (h : Zs q w A n c zs) (hc : Chg K w w') (hk : ∀ k, A.map (·.block) = some k → ¬ K k) : Zs q w' A n c zs := by
  refine ⟨h.len, h.nc, h.cm, h.wf, fun hn => ?_⟩
  obtain ⟨b, o, rfl, hlt, hh⟩ := h.el hn
  refine ⟨b, o, rfl, Nat.lt_of_lt_of_le hlt hc.size, fun j hj => ?_⟩
  rw [World.cell?_of_block (hc.block b hlt (hk b rfl))]
  exact hh j hj
set_option maxRecDepth 100000 in
theorem fv_chg {w w' : World} {r : FR} {f : Frg} {K : Nat → Prop} (h : FV w r f) (hc : Chg K w w') (hk : ∀ k, r.A.map (·.block) = some k → ¬ K k) : FV w' r f := ⟨h.at_, h.wf, zs_chg h.ws hc hk⟩

/-- An int's row of the table. -/
def Ie (q : IntKind) (E : TypeId) : Prop := ∃ i, Try.prog.info? E = some i ∧ i.zero = some (.int q 0) ∧ i.size = 1 ∧ i.bytes = 8
set_option maxRecDepth 100000 in
theorem ie_u : Ie .u64 24 := by
  have h : (Try.prog.info? 24).map (fun i => (i.zero, i.size, i.bytes)) = some (some (.int .u64 0), 1, 8) := by kernel_rfl
  unfold Ie
  cases hi : Try.prog.info? 24 with
  | none => rw [hi] at h; simp at h
  | some i => rw [hi] at h; simp at h; exact ⟨i, rfl, h.1, h.2.1, h.2.2⟩
set_option maxRecDepth 100000 in
theorem ie_i : Ie .i64 3 := by
  have h : (Try.prog.info? 3).map (fun i => (i.zero, i.size, i.bytes)) = some (some (.int .i64 0), 1, 8) := by kernel_rfl
  unfold Ie
  cases hi : Try.prog.info? 3 with
  | none => rw [hi] at h; simp at h
  | some i => rw [hi] at h; simp at h; exact ⟨i, rfl, h.1, h.2.1, h.2.2⟩
set_option maxRecDepth 100000 in
theorem und_ws : Try.prog.underlying 27 = some (.slice 24) := by kernel_rfl
set_option maxRecDepth 100000 in
theorem und_is : Try.prog.underlying 31 = some (.slice 3) := by kernel_rfl
set_option maxRecDepth 100000 in
theorem und_fs : Try.prog.underlying 30 = some (.slice 29) := by kernel_rfl
set_option maxRecDepth 100000 in
theorem info_fr : (Try.prog.info? 29).map (fun i => (i.zero, i.size, i.bytes)) = some (some (.agg #[.int .i64 0, .slice none 0 0]), 2, 32) := by kernel_rfl
set_option maxRecDepth 100000 in
theorem info_fr' : ∃ i, Try.prog.info? 29 = some i ∧ i.zero = some (.agg #[.int .i64 0, .slice none 0 0]) ∧ i.size = 2 ∧ i.bytes = 32 := by
  have h := info_fr
  cases hi : Try.prog.info? 29 with
  | none => rw [hi] at h; simp at h
  | some i => rw [hi] at h; simp at h; exact ⟨i, rfl, h.1, h.2.1, h.2.2⟩

set_option maxRecDepth 100000 in
/-- A copy of numbers, by append onto nil. -/
theorem zs_copy {q : IntKind} {T E : TypeId} (ht : Try.prog.underlying T = some (.slice E)) (hE : Ie q E) {w : World} {A : Option Addr} {n c : Nat} {zs : List Int} (h : Zs q w A n c zs) (hn : n ≤ 100000) (ty : TypeId) :
    ∃ A' c' w', (Builtin.append_ #[T, T] ty #[.slice none 0 0, .slice A n c]).run Try.prog w = .ok (.slice A' n c') w' ∧ Zs q w' A' n c' zs ∧ Below w.heap.size w w' ∧ (∀ k, A'.map (·.block) = some k → w.heap.size ≤ k ∧ k < w'.heap.size) := by
  obtain ⟨i, hi, hz, hs, hb⟩ := hE
  by_cases h0 : n = 0
  · subst h0
    have hzs : zs = [] := List.eq_nil_of_length_eq_zero h.len
    subst hzs
    refine ⟨none, 0, w, ?_, Zs.nil q w, Below.refl _ _, fun k hk => by cases hk⟩
    cases A <;> simp [Builtin.append_, run_underlying ht, sizeOf, typeInfo, hi, Builtin.lenOf, Builtin.firstCells, loadCells, loadCellsFrom]
  · obtain ⟨b, o, rfl, hlt, hh⟩ := h.el (by omega)
    obtain ⟨v', w', hrun, ho, hg, _, hloc⟩ := run_append_own_at (P := Try.prog) w 0 T ty E i (.int q 0) 1 8 ht hi hz hs hb rfl (by decide) (.slice none 0 0) 0 [] (World.ownsRow_nil _ _ _ _) ⟨b, o, none⟩ n c (zs.map (Value.int q)) (by simp [h.len]) (by
      intro j u hu
      rw [Lk.addN]
      rw [List.getElem?_map, Option.map_eq_some_iff] at hu
      obtain ⟨z, hz, rfl⟩ := hu
      have hj : j < n := by rw [← h.len]; exact (List.getElem?_eq_some_iff.1 hz).1
      rw [hh j hj, List.getD_eq_getElem?_getD, hz]
      rfl) (by intro u hu; simp at hu; obtain ⟨a, _, rfl⟩ := hu; rfl) (by unfold maxLen; omega) (by omega) (by omega)
    rw [Nat.zero_add] at ho
    rcases ho.2 with ⟨_, h1⟩ | ⟨g, cap, cur, rfl, _, hgg, hnc, hcm, _⟩
    · omega
    · refine ⟨some ⟨g, 0, none⟩, cap, w', hrun, ⟨h.len, hnc, hcm, h.wf, fun _ => ⟨g, 0, rfl, (Array.getElem?_eq_some_iff.1 hgg).1, fun j hj => ?_⟩⟩, ⟨hg.os, hg.tape, hg.output, hg.size, fun k hk => hg.block k hk (by simp [Value.ownBlock])⟩, fun k hk => ?_⟩
      · rw [Nat.zero_add, World.ownsRow.cellAt ho j (by omega)]
        have hl : j < zs.length := by rw [h.len]; exact hj
        simp [hl]
      · cases hk
        have hlt2 := (Array.getElem?_eq_some_iff.1 hgg).1
        rcases hloc with e | e
        · simp [Value.ownBlock] at e
        · simp [Value.ownBlock] at e
          simp only
          omega
end Go.Proofs.Ytejmmjedognaaaa
