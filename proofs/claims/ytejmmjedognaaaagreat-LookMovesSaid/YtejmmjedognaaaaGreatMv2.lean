/-
  DUMPS that came in.
  DUMPS: GreatDump, GreatSlots, SameWords, SameInts, SameFrag, SameDump of what is the same.
  DUMPS: a dump in a variable; SameDump of what is the same; GreatDump; GreatSlots.
  DUMPS: GreatDump, GreatSlots.
  DUMPS: copies of rows; CopyDump.
-/
import Derived.Test.YtejmmjedognaaaaGreatMv1
import Derived.OpenShut
import Derived.ProofKit
import Derived.Lib.SmallJoins
import Derived.Deep.RegionHeld3
import Derived.Deep.CutBlock
import Derived.Deep.CutRange
import Derived.Laws.OwnMore
namespace Go.Proofs.YtejmmjedognaaaaGreat
open Go.RowKit Go.ChangeShapes Go.WideShapes
open St

namespace Lk
set_option maxRecDepth 100000 in
theorem addN (b o : Nat) (j : Nat) : (⟨b, o, none⟩ : Addr).add j = ⟨b, o + j, none⟩ := by unfold Addr.add; split <;> simp_all
set_option maxRecDepth 100000 in
theorem cells_i : Tryz.prog.cellsOf 3 = 1 := by kernel_rfl
set_option maxRecDepth 100000 in
theorem cells_s : Tryz.prog.cellsOf 9 = 1 := by kernel_rfl
set_option maxRecDepth 100000 in
theorem cells_ws : Tryz.prog.cellsOf 22 = 1 := by kernel_rfl
set_option maxRecDepth 100000 in
theorem cells_is : Tryz.prog.cellsOf 26 = 1 := by kernel_rfl
set_option maxRecDepth 100000 in
theorem cells_fs : Tryz.prog.cellsOf 25 = 1 := by kernel_rfl
set_option maxRecDepth 100000 in
theorem cells_frag : Tryz.prog.cellsOf 24 = 2 := by kernel_rfl
set_option maxRecDepth 100000 in
theorem cells_dump : Tryz.prog.cellsOf 28 = 9 := by kernel_rfl
set_option maxRecDepth 100000 in
theorem cells_slot : Tryz.prog.cellsOf 61 = 3 := by kernel_rfl
set_option maxRecDepth 100000 in
theorem list2 {α : Type} {cs : List α} (h : cs.length = 2) : ∃ c0 c1, cs = [c0, c1] := by
  match cs, h with
  | [c0, c1], _ => exact ⟨c0, c1, rfl⟩
set_option maxRecDepth 100000 in
theorem list3 {α : Type} {cs : List α} (h : cs.length = 3) : ∃ c0 c1 c2, cs = [c0, c1, c2] := by
  match cs, h with
  | [c0, c1, c2], _ => exact ⟨c0, c1, c2, rfl⟩
set_option maxRecDepth 100000 in
theorem list9 {α : Type} {cs : List α} (h : cs.length = 9) : ∃ c0 c1 c2 c3 c4 c5 c6 c7 c8, cs = [c0, c1, c2, c3, c4, c5, c6, c7, c8] := by
  match cs, h with
  | [c0, c1, c2, c3, c4, c5, c6, c7, c8], _ => exact ⟨c0, c1, c2, c3, c4, c5, c6, c7, c8, rfl⟩

variable {H : Type} {enc : TypeId × Value → H} {W : World}

set_option maxRecDepth 100000 in
theorem open_zs {q : IntKind} {t e : TypeId} (ht : Tryz.prog.underlying t = some (.slice e)) (he : Tryz.prog.underlying e = some (.int q)) (hce : Tryz.prog.cellsOf e = 1) {fuel : Nat} {cs : List Value} {x : DataW H × List MemPlace}
    (h : DataW.trod enc Tryz.prog W 0 (fun _ => true) true fuel t cs = some x) : ∃ (A : Option Addr) (n c : Nat) (zs : List Int), cs = [.slice A n c] ∧ Zs q W A n c zs := by
  rcases open_ints ht he hce h with ⟨e1, _⟩ | ⟨a, len, cap, zs, e1, _, hl, hm, hz, _, hcell, hwz⟩
  · exact ⟨none, 0, 0, [], e1, Zs.nil q W⟩
  · simp only [if_true] at hz
    refine ⟨some a, len, cap, zs.take len, e1, by rw [List.length_take]; omega, hl, hm, fun z hz' => hwz z (List.mem_of_mem_take hz'), fun hn => ?_⟩
    have h0 := hcell 0 (by omega)
    have hspot : a.spot = none := by
      have := World.cell?_spot h0
      simpa [Addr.add] using this
    obtain ⟨b, o, sp⟩ := a
    simp only at hspot
    subst hspot
    refine ⟨b, o, rfl, ?_, fun j hj => ?_⟩
    · have := World.block_lt_of_cell? W _ h0
      rw [addN] at this
      exact this
    · have := hcell j (by omega)
      rw [addN] at this
      rw [this]
      congr 2
      rw [List.getD_eq_getElem?_getD, List.getD_eq_getElem?_getD, List.getElem?_take_of_lt hj]

set_option maxRecDepth 100000 in
theorem open_frag {fuel : Nat} {cs : List Value} {x : DataW H × List MemPlace} (h : DataW.trod enc Tryz.prog W 0 (fun _ => true) true fuel 24 cs = some x) : ∃ (r : FR) (f : Frg), cs = r.cells ∧ FV W r f := by
  obtain ⟨xs, n, hfu, _, hcl, hxl, hf⟩ := DataW.trod_struct Tryz.underlying24 h
  rw [cells_frag] at hcl
  obtain ⟨c0, c1, rfl⟩ := list2 hcl
  have get : ∀ i, i < 2 → ∃ y, xs[i]? = some y := fun i hi => ⟨_, List.getElem?_eq_getElem (by rw [hxl]; exact hi)⟩
  have f0 : DataW.trod enc Tryz.prog W 0 (fun _ => true) true n 3 [c0] = xs[0]? := by simpa [cells_i] using hf 0 _ rfl
  have f1 : DataW.trod enc Tryz.prog W 0 (fun _ => true) true n 22 [c1] = xs[1]? := by simpa [cells_i, cells_ws] using hf 1 _ rfl
  obtain ⟨y0, e0⟩ := get 0 (by omega)
  obtain ⟨y1, e1⟩ := get 1 (by omega)
  rw [e0] at f0; rw [e1] at f1
  obtain ⟨k, q0, _, w0⟩ := DataW.trod_int Tryz.underlying3 f0
  obtain ⟨A, m, c, ws, q1, hz⟩ := open_zs (q := .u64) Tryz.underlying22 Tryz.underlying30 (by kernel_rfl) f1
  simp only [List.cons.injEq, and_true] at q0 q1
  subst q0 q1
  exact ⟨⟨k, A, m, c⟩, ⟨k, ws⟩, rfl, rfl, w0, hz⟩

set_option maxRecDepth 100000 in
theorem open_frags {fuel : Nat} {cs : List Value} {x : DataW H × List MemPlace} (h : DataW.trod enc Tryz.prog W 0 (fun _ => true) true fuel 25 cs = some x) :
    ∃ (A : Option Addr) (m c : Nat) (rs : List FR) (fs : List Frg), cs = [.slice A m c] ∧ FVs W A m c rs fs := by
  rcases DataW.trod_slice Tryz.underlying25 h with ⟨h0, _⟩ | ⟨a, len, cap, elems, rest, n', hfu, hcs, _, hb, hl, hm, hlen, hel, _, _⟩
  · exact ⟨none, 0, 0, [], [], h0, rfl, rfl, Nat.le_refl _, Nat.zero_le _, fun h => by omega, fun i h => by omega⟩
  · rw [cells_frag] at hel
    have each : ∀ i, i < len → ∃ y : FR × Frg, (∀ j, j < 2 → W.cell? ((a.add (i * 2)).add j) = y.1.cells[j]?) ∧ FV W y.1 y.2 := fun i hi => by
      have h1 := hel i hi
      rw [List.getElem?_eq_getElem (by omega)] at h1
      obtain ⟨cs', h2, h3⟩ := Option.bind_eq_some_iff.1 h1
      obtain ⟨r, f, rfl, hy⟩ := open_frag h3
      obtain ⟨_, _, h4⟩ := World.cells?_some h2
      exact ⟨⟨r, f⟩, h4, hy⟩
    obtain ⟨F, hF⟩ := Go.Deep.choose_lt (α := FR × Frg) each
    have hr : ∀ i, i < len → ((List.range len).map fun i => (F i).1).getD i FR.zero = (F i).1 := fun i hi => by simp [hi]
    have hg : ∀ i, i < len → ((List.range len).map fun i => (F i).2).getD i Frg.zero = (F i).2 := fun i hi => by simp [hi]
    refine ⟨some a, len, cap, (List.range len).map fun i => (F i).1, (List.range len).map fun i => (F i).2, hcs, by simp, by simp, hl, hm, fun hn => ?_, fun i hi => by rw [hr i hi, hg i hi]; exact (hF i hi).2⟩
    have h0 := (hF 0 hn).1 0 (by omega)
    have h0' : W.cell? ((a.add (0 * 2)).add 0) = some (.int .i64 (F 0).1.at_) := h0
    have hspot : a.spot = none := by
      have := World.cell?_spot h0'
      simpa [Addr.add] using this
    obtain ⟨b, o, sp⟩ := a
    simp only at hspot
    subst hspot
    refine ⟨b, o, rfl, ?_, fun i hi j hj => ?_⟩
    · have := World.block_lt_of_cell? W _ h0'
      rw [addN, addN] at this
      exact this
    · have := (hF i hi).1 j hj
      rw [addN, addN] at this
      rw [hr i hi]
      exact this

set_option maxRecDepth 100000 in
theorem open_slot {fuel : Nat} {cs : List Value} {x : DataW H × List MemPlace} (h : DataW.trod enc Tryz.prog W 0 (fun _ => true) true fuel 61 cs = some x) : ∃ s : Slt, cs = sltCells s ∧ (Lit.int .i64 s.st).wf = true ∧ (Lit.int .i64 s.ct).wf = true ∧ s.tx.size ≤ maxLen := by
  obtain ⟨xs, n, hfu, _, hcl, hxl, hf⟩ := DataW.trod_struct Tryz.underlying61 h
  rw [cells_slot] at hcl
  obtain ⟨c0, c1, c2, rfl⟩ := list3 hcl
  have get : ∀ i, i < 3 → ∃ y, xs[i]? = some y := fun i hi => ⟨_, List.getElem?_eq_getElem (by rw [hxl]; exact hi)⟩
  have f0 : DataW.trod enc Tryz.prog W 0 (fun _ => true) true n 3 [c0] = xs[0]? := by simpa [cells_i] using hf 0 _ rfl
  have f1 : DataW.trod enc Tryz.prog W 0 (fun _ => true) true n 3 [c1] = xs[1]? := by simpa [cells_i] using hf 1 _ rfl
  have f2 : DataW.trod enc Tryz.prog W 0 (fun _ => true) true n 9 [c2] = xs[2]? := by simpa [cells_i, cells_s] using hf 2 _ rfl
  obtain ⟨y0, e0⟩ := get 0 (by omega)
  obtain ⟨y1, e1⟩ := get 1 (by omega)
  obtain ⟨y2, e2⟩ := get 2 (by omega)
  rw [e0] at f0; rw [e1] at f1; rw [e2] at f2
  obtain ⟨k, q0, _, w0⟩ := DataW.trod_int Tryz.underlying3 f0
  obtain ⟨m, q1, _, w1⟩ := DataW.trod_int Tryz.underlying3 f1
  obtain ⟨s, q2, _, w2⟩ := DataW.trod_string Tryz.underlying9 f2
  simp only [List.cons.injEq, and_true] at q0 q1 q2
  subst q0 q1 q2
  exact ⟨⟨k, m, s⟩, rfl, w0, w1, w2⟩
set_option maxRecDepth 100000 in
theorem open_slots {v : Value} {d : DataW H} {p : List MemPlace} (hv : ∃ a n c, v = .slice a n c) (h : DataW.Trod enc Tryz.prog W 0 (fun _ => true) true 29 v d p) :
    ∃ (A : Option Addr) (m c : Nat) (L : List Slt), v = .slice A m c ∧ SLs W A m c L := by
  obtain ⟨a, n, c, rfl⟩ := hv
  obtain ⟨fuel, hf⟩ := h
  have hf' : DataW.trod enc Tryz.prog W 0 (fun _ => true) true fuel 29 [.slice a n c] = some (d, p) := by simpa [Value.cells] using hf
  rcases DataW.trod_slice Tryz.underlying29 hf' with ⟨h0, _⟩ | ⟨a, len, cap, elems, rest, n', hfu, hcs, _, hb, hl, hm, hlen, hel, _, _⟩
  · simp only [List.cons.injEq, and_true] at h0
    cases h0
    exact ⟨none, 0, 0, [], rfl, rfl, Nat.le_refl _, Nat.zero_le _, fun i hi => by omega, fun h => by omega⟩
  · simp only [List.cons.injEq, and_true] at hcs
    cases hcs
    rw [cells_slot] at hel
    have each : ∀ i, i < n → ∃ y : Slt, (∀ j, j < 3 → W.cell? ((a.add (i * 3)).add j) = (sltCells y)[j]?) ∧ (Lit.int .i64 y.st).wf = true ∧ (Lit.int .i64 y.ct).wf = true ∧ y.tx.size ≤ maxLen := fun i hi => by
      have h1 := hel i hi
      rw [List.getElem?_eq_getElem (by omega)] at h1
      obtain ⟨cs', h2, h3⟩ := Option.bind_eq_some_iff.1 h1
      obtain ⟨y, rfl, hy⟩ := open_slot h3
      obtain ⟨_, _, h4⟩ := World.cells?_some h2
      exact ⟨y, h4, hy⟩
    obtain ⟨F, hF⟩ := Go.Deep.choose_lt (α := Slt) each
    have hag : ∀ i, i < n → gt ((List.range n).map F) i = F i := fun i hi => by simp [gt, hi]
    refine ⟨some a, n, c, (List.range n).map F, rfl, by simp, hl, hm, fun i hi => by rw [hag i hi]; exact (hF i hi).2, fun hn => ?_⟩
    have h0 := (hF 0 hn).1 0 (by omega)
    have h0' : W.cell? ((a.add (0 * 3)).add 0) = some (.int .i64 (F 0).st) := h0
    have hspot : a.spot = none := by
      have := World.cell?_spot h0'
      simpa [Addr.add] using this
    obtain ⟨b, o, sp⟩ := a
    simp only at hspot
    subst hspot
    refine ⟨b, o, rfl, ?_, fun i hi j hj => ?_⟩
    · have := World.block_lt_of_cell? W _ h0'
      rw [addN, addN] at this
      exact this
    · have := (hF i hi).1 j hj
      rw [addN, addN] at this
      rw [hag i hi]
      exact this

set_option maxRecDepth 100000 in
set_option maxRecDepth 100000 in
theorem open_dump {base : Nat} {v : Value} {d : DataW H} {p : List MemPlace} (hv : Value.okWide Tryz.prog W .any base 28 v) (h : DataW.Trod enc Tryz.prog W 0 (fun _ => true) true 28 v d p) :
    ∃ (r : DR) (m : Dmp), v = r.val ∧ DV W r m := by
  obtain ⟨cs, rfl, hsz⟩ := okWide_struct Tryz.underlying28 hv
  obtain ⟨fuel, hf⟩ := h
  have hf' : DataW.trod enc Tryz.prog W 0 (fun _ => true) true fuel 28 cs.toList = some (d, p) := by simpa [Value.cells] using hf
  obtain ⟨xs, n, hfu, _, hcl, hxl, hf⟩ := DataW.trod_struct Tryz.underlying28 hf'
  rw [cells_dump] at hcl
  obtain ⟨c0, c1, c2, c3, c4, c5, c6, c7, c8, hcs⟩ := list9 hcl
  rw [hcs] at hf
  have get : ∀ i, i < 7 → ∃ y, xs[i]? = some y := fun i hi => ⟨_, List.getElem?_eq_getElem (by rw [hxl]; exact hi)⟩
  have f0 : DataW.trod enc Tryz.prog W 0 (fun _ => true) true n 24 [c0, c1] = xs[0]? := by simpa [cells_frag] using hf 0 _ rfl
  have f1 : DataW.trod enc Tryz.prog W 0 (fun _ => true) true n 24 [c2, c3] = xs[1]? := by simpa [cells_frag] using hf 1 _ rfl
  have f2 : DataW.trod enc Tryz.prog W 0 (fun _ => true) true n 3 [c4] = xs[2]? := by simpa [cells_frag, cells_i] using hf 2 _ rfl
  have f3 : DataW.trod enc Tryz.prog W 0 (fun _ => true) true n 3 [c5] = xs[3]? := by simpa [cells_frag, cells_i] using hf 3 _ rfl
  have f4 : DataW.trod enc Tryz.prog W 0 (fun _ => true) true n 25 [c6] = xs[4]? := by simpa [cells_frag, cells_i, cells_fs] using hf 4 _ rfl
  have f5 : DataW.trod enc Tryz.prog W 0 (fun _ => true) true n 22 [c7] = xs[5]? := by simpa [cells_frag, cells_i, cells_fs, cells_ws] using hf 5 _ rfl
  have f6 : DataW.trod enc Tryz.prog W 0 (fun _ => true) true n 26 [c8] = xs[6]? := by simpa [cells_frag, cells_i, cells_fs, cells_ws, cells_is] using hf 6 _ rfl
  obtain ⟨y0, e0⟩ := get 0 (by omega)
  obtain ⟨y1, e1⟩ := get 1 (by omega)
  obtain ⟨y2, e2⟩ := get 2 (by omega)
  obtain ⟨y3, e3⟩ := get 3 (by omega)
  obtain ⟨y4, e4⟩ := get 4 (by omega)
  obtain ⟨y5, e5⟩ := get 5 (by omega)
  obtain ⟨y6, e6⟩ := get 6 (by omega)
  rw [e0] at f0; rw [e1] at f1; rw [e2] at f2; rw [e3] at f3; rw [e4] at f4; rw [e5] at f5; rw [e6] at f6
  obtain ⟨ry, fy, q0, vy⟩ := open_frag f0
  obtain ⟨ro, fo, q1, vo⟩ := open_frag f1
  obtain ⟨sz, q2, _, w2⟩ := DataW.trod_int Tryz.underlying3 f2
  obtain ⟨mk, q3, _, w3⟩ := DataW.trod_int Tryz.underlying3 f3
  obtain ⟨F, fm, fc, rs, fs, q4, vf⟩ := open_frags f4
  obtain ⟨R, rm, rc, ws, q5, vr⟩ := open_zs (q := .u64) Tryz.underlying22 Tryz.underlying30 (by kernel_rfl) f5
  obtain ⟨Hh, hm, hc, hs, q6, vh⟩ := open_zs (q := .i64) Tryz.underlying26 Tryz.underlying3 (by kernel_rfl) f6
  simp only [FR.cells, List.cons.injEq, and_true] at q0 q1 q2 q3 q4 q5 q6
  obtain ⟨rfl, rfl⟩ := q0
  obtain ⟨rfl, rfl⟩ := q1
  subst q2 q3 q4 q5 q6
  refine ⟨⟨ry, ro, sz, mk, F, fm, fc, R, rm, rc, Hh, hm, hc, rs⟩, ⟨fy, fo, sz, mk, fs, ws, hs⟩, ?_, vy, vo, rfl, rfl, w2, w3, vf, vr, vh⟩
  unfold DR.val
  congr 1
  apply Array.ext'
  rw [hcs]
end Lk
end Go.Proofs.YtejmmjedognaaaaGreat

namespace Go.Proofs.YtejmmjedognaaaaGreat
open Go.RowKit
open St

set_option maxRecDepth 100000 in
theorem wf_i {z : Int} (h : (Lit.int .i64 z).wf = true) : -9223372036854775808 ≤ z ∧ z ≤ 9223372036854775807 := by
  simp [Lit.wf, IntKind.min, IntKind.max, IntKind.signed, IntKind.bits] at h
  omega
set_option maxRecDepth 100000 in
theorem wf_u {z : Int} (h : (Lit.int .u64 z).wf = true) : 0 ≤ z ∧ z ≤ 18446744073709551615 := by
  simp [Lit.wf, IntKind.min, IntKind.max, IntKind.signed, IntKind.bits] at h
  omega

set_option maxRecDepth 100000 in
set_option maxRecDepth 100000 in
set_option maxHeartbeats 2000000 in
theorem sameWords_eq {w : World} {A A' : Option Addr} {n c c' : Nat} {zs : List Int} (h : Zs .u64 w A n c zs) (h' : Zs .u64 w A' n c' zs) :
    Calls Tryz.prog 41 #[.slice A n c, .slice A' n c'] w fun r w' => r = .returned (.bool true) ∧ ∃ q, w' = w.drewN q := by
  have hn : n ≤ 9223372036854775807 := Nat.le_trans h.nc h.cm
  go_enter Tryz.func41, Tryz.ntmps41
  go_wp2_with fail
  go_loopw [5] (fun x w' => ∃ i q : Nat, i ≤ n ∧ x = .int .i64 (i : Int) ∧ w' = w.drewN q) (fun x _ => n - (intOf x).toNat)
  case atStart => exact ⟨0, 0, Nat.zero_le _, rfl, rfl⟩
  case round =>
    obtain ⟨i, q, hi, rfl, rfl⟩ := hrel
    by_cases hin : i < n
    · obtain ⟨b, o, rfl, _⟩ := h.some (by omega)
      obtain ⟨b', o', rfl, _⟩ := h'.some (by omega)
      have y0 := h.at_ hin
      have y1 := h'.at_ hin
      have hd1 : decide ((i : Int) < (n : Int)) = true := decide_eq_true (by omega)
      clear h h'
      generalize zs.getD i 0 = z at *
      go_wp2_with fail
      go_region
      all_goals
        go_wp2_with fail
        exact ⟨⟨i + 1, q + 1, by omega, rfl, rfl⟩, by simp [intOf]; omega⟩
    · have e : i = n := by omega
      subst e
      have hd1 : decide ((i : Int) < (i : Int)) = false := decide_eq_false (by omega)
      clear h h'
      go_wp2
      go_ret
      exact ⟨rfl, q, rfl⟩
set_option maxRecDepth 100000 in
set_option maxRecDepth 100000 in
set_option maxHeartbeats 2000000 in
theorem sameInts_eq {w : World} {A A' : Option Addr} {n c c' : Nat} {zs : List Int} (h : Zs .i64 w A n c zs) (h' : Zs .i64 w A' n c' zs) :
    Calls Tryz.prog 20 #[.slice A n c, .slice A' n c'] w fun r w' => r = .returned (.bool true) ∧ ∃ q, w' = w.drewN q := by
  have hn : n ≤ 9223372036854775807 := Nat.le_trans h.nc h.cm
  go_enter Tryz.func20, Tryz.ntmps20
  go_wp2_with fail
  go_loopw [5] (fun x w' => ∃ i q : Nat, i ≤ n ∧ x = .int .i64 (i : Int) ∧ w' = w.drewN q) (fun x _ => n - (intOf x).toNat)
  case atStart => exact ⟨0, 0, Nat.zero_le _, rfl, rfl⟩
  case round =>
    obtain ⟨i, q, hi, rfl, rfl⟩ := hrel
    by_cases hin : i < n
    · obtain ⟨b, o, rfl, _⟩ := h.some (by omega)
      obtain ⟨b', o', rfl, _⟩ := h'.some (by omega)
      have y0 := h.at_ hin
      have y1 := h'.at_ hin
      have hd1 : decide ((i : Int) < (n : Int)) = true := decide_eq_true (by omega)
      clear h h'
      generalize zs.getD i 0 = z at *
      go_wp2_with fail
      go_region
      all_goals
        go_wp2_with fail
        exact ⟨⟨i + 1, q + 1, by omega, rfl, rfl⟩, by simp [intOf]; omega⟩
    · have e : i = n := by omega
      subst e
      have hd1 : decide ((i : Int) < (i : Int)) = false := decide_eq_false (by omega)
      clear h h'
      go_wp2
      go_ret
      exact ⟨rfl, q, rfl⟩

set_option maxRecDepth 100000 in
theorem bel_drewN (w : World) (q : Nat) : Below w.heap.size w (w.drewN q) := ⟨rfl, rfl, rfl, Nat.le_refl _, fun _ _ => rfl⟩
set_option maxRecDepth 100000 in
set_option maxRecDepth 100000 in
set_option maxHeartbeats 2000000 in
theorem sameFrag_eq {w : World} {r r' : FR} {f : Frg} (h : FV w r f) (h' : FV w r' f) :
    Calls Tryz.prog 40 #[.agg #[.int .i64 r.at_, .slice r.A r.n r.c], .agg #[.int .i64 r'.at_, .slice r'.A r'.n r'.c]] w fun e w' => e = .returned (.bool true) ∧ Below w.heap.size w w' := by
  obtain ⟨a, A, n, c⟩ := r
  obtain ⟨a', A', n', c'⟩ := r'
  obtain ⟨e1, _, h⟩ := h
  obtain ⟨e2, _, h'⟩ := h'
  simp only at e1 e2 h h' ⊢
  have hn : n = n' := by rw [← h.len, ← h'.len]
  subst e1 hn
  rw [e2]
  have hb : Below w.heap.size w ((w.alloc (.cells #[.int .i64 f.at_, .slice A n c] 24)).alloc (.cells #[.int .i64 f.at_, .slice A' n c'] 24)) := ((Below.refl _ w).alloc (Nat.le_refl _) _).alloc (by simp) _
  have HS := Lib.hid (sameWords_eq (h.below hb) (h'.below hb))
  have HB := Lib.hid hb
  clear h h' e2 hb
  go_enter Tryz.func40, Tryz.ntmps40
  go_wp2_with (go_at_call 41; (with_reducible refine HS.out.mono ?_); rintro e w1 ⟨rfl, q, rfl⟩)
  go_ret
  exact ⟨rfl, HB.out.trans ((bel_drewN _ q).mono HB.out.size)⟩
end Go.Proofs.YtejmmjedognaaaaGreat

namespace Go.Proofs.YtejmmjedognaaaaGreat
open Go.RowKit
open St

/-- A dump in a variable. -/
structure Bx (w : World) (D : Nat) (r : DR) : Prop where
  blk : w.heap[D]? = some (.cells #[.int .i64 r.y.at_, .slice r.y.A r.y.n r.y.c, .int .i64 r.o.at_, .slice r.o.A r.o.n r.o.c, .int .i64 r.size, .int .i64 r.mark, .slice r.F r.fm r.fc, .slice r.R r.rm r.rc, .slice r.H r.hm r.hc] 28 (0, 0))
namespace Bx
variable {w w' : World} {D : Nat} {r : DR}
set_option maxRecDepth 100000 in
theorem lt (h : Bx w D r) : D < w.heap.size := (Array.getElem?_eq_some_iff.1 h.blk).1
set_option maxRecDepth 100000 in
theorem below (h : Bx w D r) {B : Nat} (hb : Below B w w') (hB : D < B) : Bx w' D r := ⟨(hb.block D hB).trans h.blk⟩
set_option maxRecDepth 100000 in
theorem drewN (h : Bx w D r) (q : Nat) : Bx (w.drewN q) D r := ⟨h.blk⟩
set_option maxRecDepth 100000 in
theorem c0 (h : Bx w D r) : w.cell? ⟨D, 0, none⟩ = some (.int .i64 r.y.at_) := (cell_of_row w D 0 _ _ (0, 0) h.blk).trans rfl
set_option maxRecDepth 100000 in
theorem c1 (h : Bx w D r) : w.cell? ⟨D, 1, none⟩ = some (.slice r.y.A r.y.n r.y.c) := (cell_of_row w D 1 _ _ (0, 0) h.blk).trans rfl
set_option maxRecDepth 100000 in
theorem c2 (h : Bx w D r) : w.cell? ⟨D, 2, none⟩ = some (.int .i64 r.o.at_) := (cell_of_row w D 2 _ _ (0, 0) h.blk).trans rfl
set_option maxRecDepth 100000 in
theorem c3 (h : Bx w D r) : w.cell? ⟨D, 3, none⟩ = some (.slice r.o.A r.o.n r.o.c) := (cell_of_row w D 3 _ _ (0, 0) h.blk).trans rfl
set_option maxRecDepth 100000 in
theorem c4 (h : Bx w D r) : w.cell? ⟨D, 4, none⟩ = some (.int .i64 r.size) := (cell_of_row w D 4 _ _ (0, 0) h.blk).trans rfl
set_option maxRecDepth 100000 in
theorem c5 (h : Bx w D r) : w.cell? ⟨D, 5, none⟩ = some (.int .i64 r.mark) := (cell_of_row w D 5 _ _ (0, 0) h.blk).trans rfl
set_option maxRecDepth 100000 in
theorem c6 (h : Bx w D r) : w.cell? ⟨D, 6, none⟩ = some (.slice r.F r.fm r.fc) := (cell_of_row w D 6 _ _ (0, 0) h.blk).trans rfl
set_option maxRecDepth 100000 in
theorem c7 (h : Bx w D r) : w.cell? ⟨D, 7, none⟩ = some (.slice r.R r.rm r.rc) := (cell_of_row w D 7 _ _ (0, 0) h.blk).trans rfl
set_option maxRecDepth 100000 in
theorem c8 (h : Bx w D r) : w.cell? ⟨D, 8, none⟩ = some (.slice r.H r.hm r.hc) := (cell_of_row w D 8 _ _ (0, 0) h.blk).trans rfl
end Bx

/-- Two variables with the same dump. -/
structure SdI (w : World) (D1 D2 : Nat) (r r' : DR) (d : Dmp) (w' : World) : Prop where
  v : DV w' r d
  v' : DV w' r' d
  x : Bx w' D1 r
  z : Bx w' D2 r'
  be : Below D1 w w'
  lt : D1 < D2
set_option maxRecDepth 100000 in
theorem SdI.below {w w' w'' : World} {D1 D2 : Nat} {r r' : DR} {d : Dmp} (h : SdI w D1 D2 r r' d w') (hb : Below w'.heap.size w' w'') : SdI w D1 D2 r r' d w'' :=
  ⟨h.v.below hb, h.v'.below hb, h.x.below hb h.x.lt, h.z.below hb h.z.lt, h.be.trans (hb.mono (by have := h.x.lt; omega)), h.lt⟩
set_option maxRecDepth 100000 in
theorem SdI.drewN {w w' : World} {D1 D2 : Nat} {r r' : DR} {d : Dmp} (h : SdI w D1 D2 r r' d w') (q : Nat) : SdI w D1 D2 r r' d (w'.drewN q) := h.below (bel_drewN _ q)

set_option maxRecDepth 100000 in
set_option maxRecDepth 100000 in
set_option maxHeartbeats 4000000 in
theorem sameDump_eq {w : World} {r r' : DR} {d : Dmp} (h : DV w r d) (h' : DV w r' d) :
    Calls Tryz.prog 15 #[.agg #[.int .i64 r.y.at_, .slice r.y.A r.y.n r.y.c, .int .i64 r.o.at_, .slice r.o.A r.o.n r.o.c, .int .i64 r.size, .int .i64 r.mark, .slice r.F r.fm r.fc, .slice r.R r.rm r.rc, .slice r.H r.hm r.hc], .agg #[.int .i64 r'.y.at_, .slice r'.y.A r'.y.n r'.y.c, .int .i64 r'.o.at_, .slice r'.o.A r'.o.n r'.o.c, .int .i64 r'.size, .int .i64 r'.mark, .slice r'.F r'.fm r'.fc, .slice r'.R r'.rm r'.rc, .slice r'.H r'.hm r'.hc]] w fun e w' => e = .returned (.bool true) ∧ Below w.heap.size w w' := by
  have B0 : Hid (∃ w0, w0 = (w.alloc (.cells #[.int .i64 r.y.at_, .slice r.y.A r.y.n r.y.c, .int .i64 r.o.at_, .slice r.o.A r.o.n r.o.c, .int .i64 r.size, .int .i64 r.mark, .slice r.F r.fm r.fc, .slice r.R r.rm r.rc, .slice r.H r.hm r.hc] 28)).alloc (.cells #[.int .i64 r'.y.at_, .slice r'.y.A r'.y.n r'.y.c, .int .i64 r'.o.at_, .slice r'.o.A r'.o.n r'.o.c, .int .i64 r'.size, .int .i64 r'.mark, .slice r'.F r'.fm r'.fc, .slice r'.R r'.rm r'.rc, .slice r'.H r'.hm r'.hc] 28) ∧ Below w.heap.size w w0 ∧ Bx w0 w.heap.size r ∧ Bx w0 (w.heap.size + 1) r') := Lib.hid (by
    refine ⟨_, rfl, ((Below.refl _ w).alloc (Nat.le_refl _) _).alloc (by simp) _, ⟨?_⟩, ⟨?_⟩⟩
    · rw [Below.heap_alloc _ _ _ (by simp)]
      exact heap_alloc_new w _
    · have := heap_alloc_new (w.alloc (.cells #[.int .i64 r.y.at_, .slice r.y.A r.y.n r.y.c, .int .i64 r.o.at_, .slice r.o.A r.o.n r.o.c, .int .i64 r.size, .int .i64 r.mark, .slice r.F r.fm r.fc, .slice r.R r.rm r.rc, .slice r.H r.hm r.hc] 28)) (.cells #[.int .i64 r'.y.at_, .slice r'.y.A r'.y.n r'.y.c, .int .i64 r'.o.at_, .slice r'.o.A r'.o.n r'.o.c, .int .i64 r'.size, .int .i64 r'.mark, .slice r'.F r'.fm r'.fc, .slice r'.R r'.rm r'.rc, .slice r'.H r'.hm r'.hc] 28)
      simpa using this)
  obtain ⟨w0, hw0, hb0, x0, z0⟩ := B0.out
  clear B0
  have v0 := h.below hb0
  have v0' := h'.below hb0
  have es : Hid (r.size = r'.size) := Lib.hid (by rw [h.size, h'.size])
  have em : Hid (r.mark = r'.mark) := Lib.hid (by rw [h.mark, h'.mark])
  have ef : Hid (r.fm = r'.fm) := Lib.hid (by rw [← h.fs.lef, ← h'.fs.lef])
  have er : Hid (r.rm = r'.rm) := Lib.hid (by rw [← h.roots.len, ← h'.roots.len])
  have eh : Hid (r.hm = r'.hm) := Lib.hid (by rw [← h.hs.len, ← h'.hs.len])
  have hfm : r'.fm ≤ 9223372036854775807 := Nat.le_trans h'.fs.mc h'.fs.cm
  clear h h'
  go_enter Tryz.func15, Tryz.ntmps15
  go_upto_region 1 with fail
  rw [← hw0]
  clear hw0
  generalize hD1 : w.heap.size = D1 at *
  generalize hD2 : D1 + 1 = D2 at *
  replace hD1 := Lib.hid hD1
  replace hD2 := Lib.hid hD2
  have a0 := x0.c0
  have a1 := x0.c1
  have b0 := z0.c0
  have b1 := z0.c1
  have H1 := Lib.hid (sameFrag_eq v0.y v0'.y)
  have K0 : Hid (DV w0 r d ∧ DV w0 r' d ∧ Bx w0 D1 r ∧ Bx w0 D2 r' ∧ Below D1 w w0) := Lib.hid ⟨v0, v0', x0, z0, hb0⟩
  clear v0 v0' x0 z0 hb0
  have es := es.out
  have em := em.out
  have ef := ef.out
  have hHS := Lib.hid (show ∀ w : World, DV w r d → DV w r' d → Calls Tryz.prog 20 #[.slice r.H r.hm r.hc, .slice r'.H r'.hm r'.hc] w fun e w' => e = .returned (.bool true) ∧ ∃ q, w' = w.drewN q from fun w h h' => by
    rw [← eh.out]
    exact sameInts_eq h.hs (by rw [eh.out]; exact h'.hs))
  have hRS := Lib.hid (show ∀ w : World, DV w r d → DV w r' d → Calls Tryz.prog 41 #[.slice r.R r.rm r.rc, .slice r'.R r'.rm r'.rc] w fun e w' => e = .returned (.bool true) ∧ ∃ q, w' = w.drewN q from fun w h h' => by
    rw [← er.out]
    exact sameWords_eq h.roots (by rw [er.out]; exact h'.roots))
  go_wp2_with (first
    | (go_at_call 40; first
      | ((with_reducible refine H1.out.mono ?_); rintro e w1 ⟨rfl, hb1⟩; obtain ⟨v0, v0', x0, z0, hb0⟩ := K0.out; have x1 := x0.below hb1 x0.lt; have z1 := z0.below hb1 z0.lt; have a2 := x1.c2; have a3 := x1.c3; have b2 := z1.c2; have b3 := z1.c3; have v1 := v0.below hb1; have v1' := v0'.below hb1; have H2 := Lib.hid (sameFrag_eq v1.o v1'.o); have K1 : Hid (DV w1 r d ∧ DV w1 r' d ∧ Bx w1 D1 r ∧ Bx w1 D2 r' ∧ Below D1 w w1) := Lib.hid ⟨v1, v1', x1, z1, hb0.trans (hb1.mono (by have := x0.lt; omega))⟩; clear v0 v0' x0 z0 hb0 hb1 x1 z1 v1 v1' H1 K0 a0 a1 b0 b1)
      | ((with_reducible refine H2.out.mono ?_); rintro e w2 ⟨rfl, hb2⟩; obtain ⟨v0, v0', x0, z0, hb0⟩ := K1.out; have x1 := x0.below hb2 x0.lt; have z1 := z0.below hb2 z0.lt; have a4 := x1.c4; have a5 := x1.c5; have a6 := x1.c6; have a7 := x1.c7; have a8 := x1.c8; have b4 := z1.c4; have b5 := z1.c5; have b6 := z1.c6; have b7 := z1.c7; have b8 := z1.c8; have v1 := v0.below hb2; have v1' := v0'.below hb2; have K2 : Hid (DV w2 r d ∧ DV w2 r' d ∧ Bx w2 D1 r ∧ Bx w2 D2 r' ∧ Below D1 w w2) := Lib.hid ⟨v1, v1', x1, z1, hb0.trans (hb2.mono (by have := x0.lt; omega))⟩; clear v0 v0' x0 z0 hb0 hb2 x1 z1 v1 v1' H2 K1 a2 a3 b2 b3))
    | (go_at_call 41; (with_reducible refine (hRS.out _ K2.out.1 K2.out.2.1).mono ?_); rintro e w3 ⟨rfl, q3, rfl⟩)
    | (go_at_call 20; (with_reducible refine (hHS.out _ (K2.out.1.drewN q3) (K2.out.2.1.drewN q3)).mono ?_); rintro e w4 ⟨rfl, q4, rfl⟩))
  have KI : Hid (SdI w D1 D2 r r' d (w2.drewN (q3 + q4))) := Lib.hid (SdI.drewN ⟨K2.out.1, K2.out.2.1, K2.out.2.2.1, K2.out.2.2.2.1, K2.out.2.2.2.2, by have := hD2.out; omega⟩ _)
  clear K2 a4 a5 a6 a7 a8 b4 b5 b6 b7 b8 hHS hRS
  go_loopw [5] (fun x wx => ∃ i : Nat, i ≤ r'.fm ∧ x = .int .i64 (i : Int) ∧ SdI w D1 D2 r r' d wx) (fun x _ => r'.fm - (intOf x).toNat)
  case atStart => exact ⟨0, Nat.zero_le _, rfl, KI.out⟩
  case round =>
    clear KI
    obtain ⟨i, hi, rfl, I⟩ := hrel
    have a6 := I.x.c6
    have b6 := I.z.c6
    by_cases hin : i < r'.fm
    · have hd1 : decide ((i : Int) < (r'.fm : Int)) = true := decide_eq_true (by omega)
      have v := I.v.fs
      have v' := I.v'.fs
      obtain ⟨b, o, hA, _⟩ := v.some (by omega)
      obtain ⟨b', o', hA', _⟩ := v'.some (by omega)
      rw [hA] at v a6
      rw [hA'] at v' b6
      obtain ⟨y0, y1⟩ := v.at_ (show i < r.fm by omega)
      obtain ⟨y2, y3⟩ := v'.at_ hin
      have hf : ∀ w', SdI w D1 D2 r r' d w' → FV w' (r.rs.getD i FR.zero) (d.fs.getD i Frg.zero) ∧ FV w' (r'.rs.getD i FR.zero) (d.fs.getD i Frg.zero) := fun w' h => ⟨h.v.fs.fv i (by omega), h.v'.fs.fv i hin⟩
      have hfa : ∀ w', SdI w D1 D2 r r' d w' → w'.cell? ⟨D1, 6, none⟩ = some (.slice (some ⟨b, o, none⟩) r.fm r.fc) ∧ w'.cell? ⟨D2, 6, none⟩ = some (.slice (some ⟨b', o', none⟩) r'.fm r'.fc) ∧ w'.cell? ⟨b, o + i * 2, none⟩ = some (.int .i64 (r.rs.getD i FR.zero).at_) ∧ w'.cell? ⟨b, o + i * 2 + 1, none⟩ = some (.slice (r.rs.getD i FR.zero).A (r.rs.getD i FR.zero).n (r.rs.getD i FR.zero).c) ∧ w'.cell? ⟨b', o' + i * 2, none⟩ = some (.int .i64 (r'.rs.getD i FR.zero).at_) ∧ w'.cell? ⟨b', o' + i * 2 + 1, none⟩ = some (.slice (r'.rs.getD i FR.zero).A (r'.rs.getD i FR.zero).n (r'.rs.getD i FR.zero).c) := fun w' h => by
        have v := h.v.fs
        have v' := h.v'.fs
        have e1 := h.x.c6
        have e2 := h.z.c6
        rw [hA] at v e1
        rw [hA'] at v' e2
        obtain ⟨y0, y1⟩ := v.at_ (show i < r.fm by omega)
        obtain ⟨y2, y3⟩ := v'.at_ hin
        exact ⟨e1, e2, y0, y1, y2, y3⟩
      replace hf := Lib.hid hf
      replace hfa := Lib.hid hfa
      clear v v' hA hA'
      generalize r.rs.getD i FR.zero = f at *
      generalize r'.rs.getD i FR.zero = f' at *
      go_wp2_with fail
      have hI := I.drewN 1
      clear a6 b6 y0 y1 y2 y3
      go_region_held3 (fun w' => w'.cell? ⟨D1, 6, none⟩ = some (.slice (some ⟨b, o, none⟩) r'.fm r.fc) ∧ w'.cell? ⟨D2, 6, none⟩ = some (.slice (some ⟨b', o', none⟩) r'.fm r'.fc) ∧ w'.cell? ⟨b, o + i * 2, none⟩ = some (.int .i64 f.at_) ∧ w'.cell? ⟨b, o + i * 2 + 1, none⟩ = some (.slice f.A f.n f.c) ∧ w'.cell? ⟨b', o' + i * 2, none⟩ = some (.int .i64 f'.at_) ∧ w'.cell? ⟨b', o' + i * 2 + 1, none⟩ = some (.slice f'.A f'.n f'.c))
        (first | exact ef ▸ hfa.out _ hI | exact ef ▸ hfa.out _ hJ)
        (first | (go_at_call 40; refine (sameFrag_eq (hf.out _ hI).1 (hf.out _ hI).2).mono ?_; rintro e w4 ⟨rfl, hb4⟩; have hJ := hI.below hb4))
      all_goals
        go_wp2_with fail
        exact ⟨⟨i + 1, by omega, rfl, hJ⟩, by simp [intOf]; omega⟩
    · have e : i = r'.fm := by omega
      subst e
      have hd1 : decide ((r'.fm : Int) < (r'.fm : Int)) = false := decide_eq_false (by omega)
      have hb := Lib.hid I.be
      clear I
      go_wp2
      go_ret
      exact ⟨rfl, by rw [hD1.out]; exact hb.out⟩
end Go.Proofs.YtejmmjedognaaaaGreat

namespace Go.Proofs.YtejmmjedognaaaaGreat
open Go.RowKit
open St

/-- A dump that is gone through. -/
structure Sm (r : DR) : Prop where
  y : r.y.n ≤ 60
  o : r.o.n ≤ 60
  fm : r.fm ≤ 6
  rm : r.rm ≤ 100
  hm : r.hm ≤ 60
  fs : ∀ i, i < r.fm → (r.rs.getD i FR.zero).n ≤ 60

/-- A bool that is true, or P holds. -/
def GrP (P : Prop) (e : Ending) : Prop := ∃ g, e = .returned (.bool g) ∧ (g = false → P)

set_option maxRecDepth 100000 in
set_option maxRecDepth 100000 in
set_option maxHeartbeats 4000000 in
theorem greatDump_any {w : World} {r : DR} {d : Dmp} (h : DV w r d) :
    Calls Tryz.prog 6 #[.agg #[.int .i64 r.y.at_, .slice r.y.A r.y.n r.y.c, .int .i64 r.o.at_, .slice r.o.A r.o.n r.o.c, .int .i64 r.size, .int .i64 r.mark, .slice r.F r.fm r.fc, .slice r.R r.rm r.rc, .slice r.H r.hm r.hc], .int .i64 60] w fun e w' => GrP (Sm r) e ∧ Below w.heap.size w w' := by
  obtain ⟨w0, hw0⟩ : ∃ w0, w0 = w.alloc (.cells #[.int .i64 r.y.at_, .slice r.y.A r.y.n r.y.c, .int .i64 r.o.at_, .slice r.o.A r.o.n r.o.c, .int .i64 r.size, .int .i64 r.mark, .slice r.F r.fm r.fc, .slice r.R r.rm r.rc, .slice r.H r.hm r.hc] 28) := ⟨_, rfl⟩
  have hb0 : Below w.heap.size w w0 := by rw [hw0]; exact (Below.refl _ w).alloc (Nat.le_refl _) _
  have x0 : Bx w0 w.heap.size r := ⟨by rw [hw0]; exact heap_alloc_new w _⟩
  have v0 := (h.below hb0).fs
  have hy : r.y.n ≤ 9223372036854775807 := Nat.le_trans h.y.ws.nc h.y.ws.cm
  have ho : r.o.n ≤ 9223372036854775807 := Nat.le_trans h.o.ws.nc h.o.ws.cm
  have hf : r.fm ≤ 9223372036854775807 := Nat.le_trans h.fs.mc h.fs.cm
  have hr : r.rm ≤ 9223372036854775807 := Nat.le_trans h.roots.nc h.roots.cm
  have hh : r.hm ≤ 9223372036854775807 := Nat.le_trans h.hs.nc h.hs.cm
  have hfs : Hid (∀ i, i < r.fm → (r.rs.getD i FR.zero).n ≤ 9223372036854775807) := Lib.hid (fun i hi => Nat.le_trans (h.fs.fv i hi).ws.nc (h.fs.fv i hi).ws.cm)
  clear h
  go_enter Tryz.func6, Tryz.ntmps6
  go_upto_region 2 with fail
  rw [← hw0]
  clear hw0
  generalize hD : w.heap.size = D at *
  replace hD := Lib.hid hD
  have c1 := x0.c1
  have c3 := x0.c3
  have c6 := x0.c6
  have c7 := x0.c7
  have c8 := x0.c8
  replace hb0 := Lib.hid hb0
  replace v0 := Lib.hid v0
  clear x0
  go_loopw [5] (fun x wx => ∃ i : Nat, i ≤ r.fm ∧ x = .int .i64 (i : Int) ∧ Hid (∀ j, j < i → (r.rs.getD j FR.zero).n ≤ 60) ∧ wx = w0) (fun x _ => r.fm - (intOf x).toNat)
  case atStart => exact ⟨0, Nat.zero_le _, rfl, Lib.hid (fun j hj => by omega), rfl⟩
  case round =>
    obtain ⟨i, hi, rfl, hall, rfl⟩ := hrel
    by_cases hin : i < r.fm
    · have hd1 : decide ((i : Int) < (r.fm : Int)) = true := decide_eq_true (by omega)
      by_cases h6 : r.fm ≤ 6
      · have hd2 : decide ((r.fm : Int) ≤ 6) = true := decide_eq_true (by omega)
        obtain ⟨b, o, hA, _⟩ := v0.out.some (by omega)
        have vv := v0.out
        rw [hA] at vv c6
        obtain ⟨_, y1⟩ := vv.at_ hin
        have hz := hfs.out i hin
        clear vv hA
        by_cases hg : (r.rs.getD i FR.zero).n ≤ 60
        · have hall2 : Hid (∀ j, j < i + 1 → (r.rs.getD j FR.zero).n ≤ 60) := Lib.hid (fun j hj => by
            by_cases e : j = i
            · rw [e]; exact hg
            · exact hall.out j (by omega))
          generalize r.rs.getD i FR.zero = f at *
          have hd3 : decide ((60 : Int) < (f.n : Int)) = false := decide_eq_false (by omega)
          go_wp2_with fail
          exact ⟨⟨i + 1, by omega, rfl, hall2, trivial⟩, by simp [intOf]; omega⟩
        · generalize r.rs.getD i FR.zero = f at *
          have hd3 : decide ((60 : Int) < (f.n : Int)) = true := decide_eq_true (by omega)
          go_wp2
          go_ret
          exact ⟨⟨true, rfl, fun h => by cases h⟩, by rw [hD.out]; exact hb0.out⟩
      · have hd2 : decide ((r.fm : Int) ≤ 6) = false := decide_eq_false (by omega)
        have hd3 : decide ((6 : Int) < (r.fm : Int)) = true := decide_eq_true (by omega)
        go_wp2
        all_goals
          go_ret
          exact ⟨⟨true, rfl, fun h => by cases h⟩, by rw [hD.out]; exact hb0.out⟩
    · have e : i = r.fm := by omega
      have hd1 : decide ((i : Int) < (r.fm : Int)) = false := decide_eq_false (by omega)
      have hall2 : Hid (∀ j, j < r.fm → (r.rs.getD j FR.zero).n ≤ 60) := by rw [← e]; exact hall
      clear hall
      go_wp2
      all_goals
        go_ret
        refine ⟨⟨_, rfl, fun hg => ?_⟩, by rw [hD.out]; exact hb0.out⟩
        first
          | (cases hg; done)
          | (simp only [Bool.or_eq_false_iff, decide_eq_false_iff_not] at hg; exact ⟨by omega, by omega, by omega, by omega, by omega, hall2.out⟩)

set_option maxRecDepth 100000 in
set_option maxRecDepth 100000 in
set_option maxHeartbeats 2000000 in
theorem greatSlots_any {w : World} {A : Option Addr} {m c : Nat} {L : List Slt} (h : SLs w A m c L) :
    Calls Tryz.prog 7 #[.slice A m c] w fun e w' => GrP (m ≤ 40 ∧ ∀ i, i < m → (gt L i).tx.size ≤ 1000) e ∧ w = w' := by
  have hcm : c ≤ 9223372036854775807 := h.cm
  have hmc := h.mc
  have hsz : ∀ i, i < m → (gt L i).tx.size ≤ 9223372036854775807 := fun i hi => (h.wf i hi).2.2
  replace hsz := Lib.hid hsz
  go_enter Tryz.func7, Tryz.ntmps7
  go_wp2_with fail
  go_loopw [3] (fun x w' => ∃ i : Nat, i ≤ m ∧ x = .int .i64 (i : Int) ∧ Hid (∀ j, j < i → (gt L j).tx.size ≤ 1000) ∧ w = w') (fun x _ => m - (intOf x).toNat)
  case atStart => exact ⟨0, Nat.zero_le _, rfl, Lib.hid (fun j hj => by omega), rfl⟩
  case round =>
    obtain ⟨i, hi, rfl, hall, rfl⟩ := hrel
    by_cases him : i < m
    · have hd1 : decide ((i : Int) < (m : Int)) = true := decide_eq_true (by omega)
      by_cases h4 : m ≤ 40
      · have hd2 : decide ((m : Int) ≤ 40) = true := decide_eq_true (by omega)
        obtain ⟨b, o, rfl, _⟩ := h.some (by omega)
        obtain ⟨_, _, y2⟩ := h.at_ him
        have hz := hsz.out i him
        clear h
        by_cases hg : (gt L i).tx.size ≤ 1000
        · have hall2 : Hid (∀ j, j < i + 1 → (gt L j).tx.size ≤ 1000) := Lib.hid (fun j hj => by
            by_cases e : j = i
            · rw [e]; exact hg
            · exact hall.out j (by omega))
          generalize gt L i = f at *
          have hd3 : decide ((1000 : Int) < (f.tx.size : Int)) = false := decide_eq_false (by omega)
          go_wp2_with fail
          exact ⟨⟨i + 1, by omega, rfl, hall2, trivial⟩, by simp [intOf]; omega⟩
        · generalize gt L i = f at *
          have hd3 : decide ((1000 : Int) < (f.tx.size : Int)) = true := decide_eq_true (by omega)
          go_wp2
          go_ret
          exact ⟨⟨true, rfl, fun h => by cases h⟩, rfl⟩
      · have hd2 : decide ((m : Int) ≤ 40) = false := decide_eq_false (by omega)
        have hd3 : decide ((40 : Int) < (m : Int)) = true := decide_eq_true (by omega)
        clear h
        go_wp2
        go_ret
        exact ⟨⟨true, rfl, fun h => by cases h⟩, rfl⟩
    · have e : i = m := by omega
      have hd1 : decide ((i : Int) < (m : Int)) = false := decide_eq_false (by omega)
      have hall2 : Hid (∀ j, j < m → (gt L j).tx.size ≤ 1000) := by rw [← e]; exact hall
      clear hall h
      go_wp2
      go_ret
      refine ⟨⟨_, rfl, fun hg => ?_⟩, rfl⟩
      have h9 := of_decide_eq_false hg
      exact ⟨by omega, hall2.out⟩
end Go.Proofs.YtejmmjedognaaaaGreat

namespace Go.Proofs.YtejmmjedognaaaaGreat
open Go.RowKit
open St

set_option maxRecDepth 100000 in
theorem zs_chg {q : IntKind} {w w' : World} {A : Option Addr} {n c : Nat} {zs : List Int} {K : Nat → Prop} (h : Zs q w A n c zs) (hc : Chg K w w') (hk : ∀ k, A.map (·.block) = some k → ¬ K k) : Zs q w' A n c zs := by
  refine ⟨h.len, h.nc, h.cm, h.wf, fun hn => ?_⟩
  obtain ⟨b, o, rfl, hlt, hh⟩ := h.el hn
  refine ⟨b, o, rfl, Nat.lt_of_lt_of_le hlt hc.size, fun j hj => ?_⟩
  rw [World.cell?_of_block (hc.block b hlt (hk b rfl))]
  exact hh j hj
set_option maxRecDepth 100000 in
theorem fv_chg {w w' : World} {r : FR} {f : Frg} {K : Nat → Prop} (h : FV w r f) (hc : Chg K w w') (hk : ∀ k, r.A.map (·.block) = some k → ¬ K k) : FV w' r f := ⟨h.at_, h.wf, zs_chg h.ws hc hk⟩

/-- An int's row of the table. -/
def Ie (q : IntKind) (E : TypeId) : Prop := ∃ i, Tryz.prog.info? E = some i ∧ i.zero = some (.int q 0) ∧ i.size = 1 ∧ i.bytes = 8
set_option maxRecDepth 100000 in
theorem ie_u : Ie .u64 30 := by
  have h : (Tryz.prog.info? 30).map (fun i => (i.zero, i.size, i.bytes)) = some (some (.int .u64 0), 1, 8) := by kernel_rfl
  unfold Ie
  cases hi : Tryz.prog.info? 30 with
  | none => rw [hi] at h; simp at h
  | some i => rw [hi] at h; simp at h; exact ⟨i, rfl, h.1, h.2.1, h.2.2⟩
set_option maxRecDepth 100000 in
theorem ie_i : Ie .i64 3 := by
  have h : (Tryz.prog.info? 3).map (fun i => (i.zero, i.size, i.bytes)) = some (some (.int .i64 0), 1, 8) := by kernel_rfl
  unfold Ie
  cases hi : Tryz.prog.info? 3 with
  | none => rw [hi] at h; simp at h
  | some i => rw [hi] at h; simp at h; exact ⟨i, rfl, h.1, h.2.1, h.2.2⟩
set_option maxRecDepth 100000 in
theorem und_ws : Tryz.prog.underlying 22 = some (.slice 30) := by kernel_rfl
set_option maxRecDepth 100000 in
theorem und_is : Tryz.prog.underlying 26 = some (.slice 3) := by kernel_rfl
set_option maxRecDepth 100000 in
theorem und_fs : Tryz.prog.underlying 25 = some (.slice 24) := by kernel_rfl
set_option maxRecDepth 100000 in
theorem info_fr : (Tryz.prog.info? 24).map (fun i => (i.zero, i.size, i.bytes)) = some (some (.agg #[.int .i64 0, .slice none 0 0]), 2, 32) := by kernel_rfl
set_option maxRecDepth 100000 in
theorem info_fr' : ∃ i, Tryz.prog.info? 24 = some i ∧ i.zero = some (.agg #[.int .i64 0, .slice none 0 0]) ∧ i.size = 2 ∧ i.bytes = 32 := by
  have h := info_fr
  cases hi : Tryz.prog.info? 24 with
  | none => rw [hi] at h; simp at h
  | some i => rw [hi] at h; simp at h; exact ⟨i, rfl, h.1, h.2.1, h.2.2⟩

set_option maxRecDepth 100000 in
/-- A copy of numbers, by append onto nil. -/
theorem zs_copy {q : IntKind} {T E : TypeId} (ht : Tryz.prog.underlying T = some (.slice E)) (hE : Ie q E) {w : World} {A : Option Addr} {n c : Nat} {zs : List Int} (h : Zs q w A n c zs) (hn : n ≤ 100000) (ty : TypeId) :
    ∃ A' c' w', (Builtin.append_ #[T, T] ty #[.slice none 0 0, .slice A n c]).run Tryz.prog w = .ok (.slice A' n c') w' ∧ Zs q w' A' n c' zs ∧ Below w.heap.size w w' ∧ (∀ k, A'.map (·.block) = some k → w.heap.size ≤ k ∧ k < w'.heap.size) := by
  obtain ⟨i, hi, hz, hs, hb⟩ := hE
  by_cases h0 : n = 0
  · subst h0
    have hzs : zs = [] := List.eq_nil_of_length_eq_zero h.len
    subst hzs
    refine ⟨none, 0, w, ?_, Zs.nil q w, Below.refl _ _, fun k hk => by cases hk⟩
    cases A <;> simp [Builtin.append_, run_underlying ht, sizeOf, typeInfo, hi, Builtin.lenOf, Builtin.firstCells, loadCells, loadCellsFrom]
  · obtain ⟨b, o, rfl, hlt, hh⟩ := h.el (by omega)
    obtain ⟨v', w', hrun, ho, hg, _, hloc⟩ := run_append_own_at (P := Tryz.prog) w 0 T ty E i (.int q 0) 1 8 ht hi hz hs hb rfl (by decide) (.slice none 0 0) 0 [] (World.ownsRow_nil _ _ _ _) ⟨b, o, none⟩ n c (zs.map (Value.int q)) (by simp [h.len]) (by
      intro j u hu
      rw [Lk.addN]
      rw [List.getElem?_map, Option.map_eq_some_iff] at hu
      obtain ⟨z, hz, rfl⟩ := hu
      have hj : j < n := by rw [← h.len]; exact (List.getElem?_eq_some_iff.1 hz).1
      rw [hh j hj, List.getD_eq_getElem?_getD, hz]
      rfl) (by intro u hu; simp at hu; obtain ⟨a, _, rfl⟩ := hu; rfl) (by unfold maxLen; omega) (by omega) (by omega)
    rw [Nat.zero_add] at ho
    rcases ho.2 with ⟨_, h1⟩ | ⟨g, cap, cur, rfl, _, hgg, hnc, hcm, _⟩
    · omega
    · refine ⟨some ⟨g, 0, none⟩, cap, w', hrun, ⟨h.len, hnc, hcm, h.wf, fun _ => ⟨g, 0, rfl, (Array.getElem?_eq_some_iff.1 hgg).1, fun j hj => ?_⟩⟩, ⟨hg.os, hg.tape, hg.output, hg.size, fun k hk => hg.block k hk (by simp [Value.ownBlock])⟩, fun k hk => ?_⟩
      · rw [Nat.zero_add, World.ownsRow.cellAt ho j (by omega)]
        have hl : j < zs.length := by rw [h.len]; exact hj
        simp [hl]
      · cases hk
        have hlt2 := (Array.getElem?_eq_some_iff.1 hgg).1
        rcases hloc with e | e
        · simp [Value.ownBlock] at e
        · simp [Value.ownBlock] at e
          simp only
          omega
end Go.Proofs.YtejmmjedognaaaaGreat
