/-
  PACKAGE wire: the decoder's take, number.
  PACKAGE wire: the decoder's integer.
  PACKAGE wire: the decoder's terms, term, whole.
  PACKAGE wire: the decoder's term, whole.
-/
import Derived.Test.YtomohdfcggghoaaJ9
import Derived.Test.YtomohdfcggghoaaJ6
import Derived.Lib.BitFns
import Derived.Laws.BytesArg
import Derived.Test.YtomohdfcggghoaaJ1
import Derived.Deep.RegionHeld3
import Derived.RegionDies
import Derived.Test.YtomohdfcggghoaaJ7
import Derived.Deep.CutBlock
namespace Go.Proofs.Ytomohdfcggghoaa
open Go.RowKit

/-- The decoder's record in block g. -/
def Dx (w : World) (g : Nat) (A : Option Addr) (n c a p : Nat) : Prop := w.heap[g]? = some (.cells #[.slice A n c, .int .i64 (a : Int), .int .i64 (p : Int)] 53 (0, 0))
section
variable {w w' : World} {g n c a p : Nat} {A : Option Addr}
set_option maxRecDepth 100000 in
theorem Dx.lt (h : Dx w g A n c a p) : g < w.heap.size := (Array.getElem?_eq_some_iff.1 h).1
set_option maxRecDepth 100000 in
theorem Dx.c0 (h : Dx w g A n c a p) : w.cell? ⟨g, 0, none⟩ = some (.slice A n c) := by rw [cell_of_row w g 0 _ _ (0, 0) h]; rfl
set_option maxRecDepth 100000 in
theorem Dx.c1 (h : Dx w g A n c a p) : w.cell? ⟨g, 1, none⟩ = some (.int .i64 (a : Int)) := by rw [cell_of_row w g 1 _ _ (0, 0) h]; rfl
set_option maxRecDepth 100000 in
theorem Dx.c2 (h : Dx w g A n c a p) : w.cell? ⟨g, 2, none⟩ = some (.int .i64 (p : Int)) := by rw [cell_of_row w g 2 _ _ (0, 0) h]; rfl
set_option maxRecDepth 100000 in
theorem Dx.fz (h : Dx w g A n c a p) (i : Nat) : w.frozen? ⟨g, i, none⟩ = false := by unfold Dx at h; simp [World.frozen?, h]
set_option maxRecDepth 100000 in
theorem Dx.keep (h : Dx w g A n c a p) (e : w'.heap[g]? = w.heap[g]?) : Dx w' g A n c a p := e.trans h
set_option maxRecDepth 100000 in
theorem Dx.set1 (h : Dx w g A n c a p) (a' : Nat) : Dx (w.setCell ⟨g, 1, none⟩ (.int .i64 (a' : Int))) g A n c a' p := by
  unfold Dx at h ⊢
  simp [World.setCell, Array.getElem?_modify, h]
set_option maxRecDepth 100000 in
theorem Dx.set2 (h : Dx w g A n c a p) (p' : Nat) : Dx (w.setCell ⟨g, 2, none⟩ (.int .i64 (p' : Int))) g A n c a p' := by
  unfold Dx at h ⊢
  simp [World.setCell, Array.getElem?_modify, h]
set_option maxRecDepth 100000 in
theorem Dx.drew (h : Dx w g A n c a p) : Dx w.drew g A n c a p := h
end
set_option maxRecDepth 100000 in
theorem grown_drew {w w' : World} {row : Option Nat} (h : w.grownBy w' row) : w.grownBy w'.drew row := ⟨h.os, h.tape, h.output, h.size, h.block⟩
set_option maxRecDepth 100000 in
theorem By.keep {w w' : World} {A : Option Addr} {n c : Nat} {l : List Nat} (h : By w A n c l) {g : Nat} (ha : 0 < n → Av A g) (k : w.grownBy w' (some g)) : By w' A n c l := by
  refine ⟨h.1, h.2.1, h.2.2.1, fun hn => ?_⟩
  obtain ⟨b, o, e, hlt, hc⟩ := h.2.2.2 hn
  subst e
  refine ⟨b, o, rfl, Nat.lt_of_lt_of_le hlt k.size, fun j hj => ?_⟩
  rw [← hc j hj]
  exact World.cell?_of_block (w := w) (a := ⟨b, o + j, none⟩) (k.block b hlt (fun e => ha hn e))
/-- Where the decoder stands. -/
structure Ds (w : World) (g : Nat) (A : Option Addr) (n c : Nat) (B : List Nat) (a p : Nat) : Prop where
  bx : Dx w g A n c a p
  by' : By w A n c B
  av : 0 < n → Av A g
  cap : c ≤ maxLen
  le : a ≤ n
set_option maxRecDepth 100000 in
theorem Ds.next {w w' : World} {g n c a p a' p' : Nat} {A : Option Addr} {B : List Nat} (h : Ds w g A n c B a p) (k : w.grownBy w' (some g)) (hx : Dx w' g A n c a' p') (hle : a' ≤ n) : Ds w' g A n c B a' p' :=
  ⟨hx, h.by'.keep h.av k, h.av, h.cap, hle⟩
/-- What the decoder panics with. -/
@[reducible] def noTm : ByteArray := ⟨#[110, 111, 32, 101, 110, 99, 111, 100, 105, 110, 103, 32, 111, 102, 32, 97, 32, 118, 97, 108, 105, 100, 32, 116, 101, 114, 109]⟩
def PanP (w : World) (g : Nat) (e : Ending) (w' : World) : Prop := e = .panicked [{ v := .iface 51 (.string noTm), recovered := false }] ∧ w.grownBy w' (some g)

set_option maxRecDepth 100000 in
set_option maxHeartbeats 1000000 in
theorem take_no (w : World) (g : Nat) (A : Option Addr) (n c : Nat) (B : List Nat) (a p m : Nat) (h : Ds w g A n c B a p) (hm : n < a + m) :
    Calls Try.prog 53 #[.pointer (some ⟨g, 0, none⟩), .int .i64 (m : Int)] w (PanP w g) := by
  have hcap := h.cap
  unfold maxLen at hcap
  have hle := h.le
  have hnc := h.by'.2.1
  have y0 := h.bx.c0
  have y1 := h.bx.c1
  go_enter Try.func53, Try.ntmps53
  go_wp2
  go_quiet (fail)
  go_wp2
  exact ⟨rfl, rfl, World.grownBy.refl _ _ |> fun k => ⟨k.os, k.tape, k.output, k.size, k.block⟩⟩

set_option maxRecDepth 100000 in
theorem window {w : World} {b o n c : Nat} {l : List Nat} (h : By w (some ⟨b, o, none⟩) n c l) (a m : Nat) (hm : a + m ≤ n) : By w (some ⟨b, o + a, none⟩) m (c - a) ((l.drop a).take m) := by
  have hnc := h.2.1
  refine ⟨by rw [List.length_take, List.length_drop, h.1]; omega, by omega, Wr.small_take (Wr.small_drop h.2.2.1 a) m, fun hn => ?_⟩
  obtain ⟨b', o', e, hlt, hc⟩ := h.2.2.2 (by omega)
  cases e
  refine ⟨b, o + a, rfl, hlt, fun j hj => ?_⟩
  rw [Nat.add_assoc, hc (a + j) (by omega)]
  congr 3
  simp only [Lm.lg, List.getD_eq_getElem?_getD, List.getElem?_take_of_lt hj, List.getElem?_drop]

set_option maxRecDepth 100000 in
set_option maxHeartbeats 1000000 in
theorem take_ok (w : World) (g : Nat) (A : Option Addr) (n c : Nat) (B : List Nat) (a p m : Nat) (h : Ds w g A n c B a p) (hn : 0 < n) (hm : a + m ≤ n) :
    Calls Try.prog 53 #[.pointer (some ⟨g, 0, none⟩), .int .i64 (m : Int)] w fun e w' => ∃ b' o' c', e = .returned (.slice (some ⟨b', o', none⟩) m c') ∧ By w' (some ⟨b', o', none⟩) m c' ((B.drop a).take m) ∧ c' ≤ maxLen ∧ Dx w' g A n c (a + m) p ∧ w.grownBy w' (some g) := by
  have hcap := h.cap
  unfold maxLen at hcap
  have hnc := h.by'.2.1
  have y0 := h.bx.c0
  have y1 := h.bx.c1
  have f1 := h.bx.fz 1
  obtain ⟨b, o, e, _⟩ := h.by'.2.2.2 hn
  subst e
  go_enter Try.func53, Try.ntmps53
  go_wp2
  go_quiet (fail)
  go_wp2
  have D2 : Dx ((w.drewN nq).setCell ⟨g, 1, none⟩ (.int .i64 ((a : Int) + (m : Int)))) g (some ⟨b, o, none⟩) n c (a + m) p := by
    rw [← Int.natCast_add]
    exact Dx.set1 (w := w.drewN nq) h.bx (a + m)
  have G2 : w.grownBy ((w.drewN nq).setCell ⟨g, 1, none⟩ (.int .i64 ((a : Int) + (m : Int)))) (some g) := grown_set (World.grownBy.refl _ _ |> fun k => ⟨k.os, k.tape, k.output, k.size, k.block⟩)
  generalize (w.drewN nq).setCell ⟨g, 1, none⟩ (.int .i64 ((a : Int) + (m : Int))) = W2 at *
  have B2 := h.by'.keep h.av G2
  clear y0 y1 f1
  have y0 := D2.c0
  have y1 : W2.cell? ⟨g, 1, none⟩ = some (.int .i64 ((a : Int) + (m : Int))) := by rw [← Int.natCast_add]; exact D2.c1
  have e1 : (a : Int) + (m : Int) ≤ (c : Int) := by omega
  by_cases hca : c = a
  · have hca' : (c = a) = True := by simp [hca]
    go_quiet (fail)
    go_wp2
    rw [Nat.add_sub_cancel_left]
    go_ret
    have hm0 : m = 0 := by omega
    subst hm0
    exact ⟨_, _, _, rfl, ⟨by simp, Nat.le_refl _, by simpa using Wr.small_nil, fun h => absurd h (by omega)⟩, Nat.zero_le _, D2, ⟨G2.os, G2.tape, G2.output, G2.size, G2.block⟩⟩
  · have hca' : (c = a) = False := by simp [hca]
    go_quiet (fail)
    go_wp2
    rw [Nat.add_sub_cancel_left]
    go_ret
    exact ⟨_, _, _, rfl, window (w := W2.drewN nq) B2 a m hm, by unfold maxLen; omega, D2, ⟨G2.os, G2.tape, G2.output, G2.size, G2.block⟩⟩

set_option maxRecDepth 100000 in
theorem or_digit {y d : Nat} (hy : y < 256 ^ 7) (hd : d < 256) : bits .or .u64 ((y : Int) * 256) (d : Int) = ((y * 256 + d : Nat) : Int) := by
  have e : (y : Int) * 256 = ((y * 256 : Nat) : Int) := by simp
  have h2 : (y * 256 ||| d) = y * 256 + d := by
    have h3 := Nat.two_pow_add_eq_or_of_lt (i := 8) (b := d) (by omega) y
    rw [Nat.mul_comm y 256]
    exact h3.symm
  rw [e, u64_or _ _ (by omega) (by omega) (by omega) (by omega), Int.toNat_natCast, Int.toNat_natCast, h2]

/-- What number leaves, where it ends well. -/
def NbP (w : World) (g : Nat) (A : Option Addr) (n c : Nat) (B : List Nat) (a p m : Nat) (e : Ending) (w' : World) : Prop :=
  e = .returned (.int .u64 ((Wr.val B a m : Nat) : Int)) ∧ Ds w' g A n c B (a + m) p ∧ w.grownBy w' (some g)

set_option maxRecDepth 100000 in
set_option maxHeartbeats 1000000 in
theorem number_no (w : World) (g : Nat) (A : Option Addr) (n c : Nat) (B : List Nat) (a p m : Nat) (h : Ds w g A n c B a p) (hm : n < a + m) (M : Int) (hM : M = (m : Int)) :
    Calls Try.prog 50 #[.pointer (some ⟨g, 0, none⟩), .int .i64 M] w (PanP w g) := by
  subst hM
  go_enter Try.func50, Try.ntmps50
  go_wp2_with fail
  refine (take_no w g A n c B a p m h hm).mono ?_
  rintro e w1 ⟨rfl, hg⟩
  go_wp2
  exact ⟨rfl, rfl, hg⟩

set_option maxRecDepth 100000 in
set_option maxHeartbeats 1000000 in
theorem number_ok (w : World) (g : Nat) (A : Option Addr) (n c : Nat) (B : List Nat) (a p m : Nat) (h : Ds w g A n c B a p) (hm : a + m ≤ n) (h1 : 1 ≤ m) (h8 : m ≤ 8) (M : Int) (hM : M = (m : Int)) :
    Calls Try.prog 50 #[.pointer (some ⟨g, 0, none⟩), .int .i64 M] w (NbP w g A n c B a p m) := by
  subst hM
  go_enter Try.func50, Try.ntmps50
  go_wp2_with fail
  refine (take_ok w g A n c B a p m h (by omega) hm).mono ?_
  rintro e w1 ⟨b1, o1, c1, rfl, hB1, hc1, hx1, hg1⟩
  have hD1 := Lib.hid (h.next hg1 hx1 hm)
  have hG1 := Lib.hid hg1
  have hbs := hB1.2.2.1
  have hbl := Lib.hid hB1.1
  obtain ⟨b, o, e, hlt, hcell⟩ := hB1.2.2.2 (by omega)
  cases e
  have hcc := hB1.2.1
  unfold maxLen at hc1
  have HV := Lib.hid (show Wr.val B a m = Wr.beq ((B.drop a).take m) from rfl)
  generalize (B.drop a).take m = ds at *
  clear hx1 hg1 h
  go_wp2_with fail
  go_loopw [5, 12] (fun x i w' => ∃ (j y : Nat), j ≤ m ∧ i = .int .i64 (j : Int) ∧ x = .int .u64 (y : Int) ∧ w' = w1 ∧ Hid (y = Wr.beq (ds.take j))) (fun _ i _ => m - (intOf i).toNat)
  case atStart => exact ⟨0, 0, Nat.zero_le _, rfl, rfl, rfl, rfl⟩
  case round =>
    obtain ⟨j, y, hj, rfl, rfl, rfl, hy⟩ := hrel
    by_cases hjm : j < m
    · have hd1 : decide ((j : Int) < (m : Int)) = true := by rw [decide_eq_true_iff]; omega
      have hz := hcell j hjm
      have hlt8 : Lm.lg ds j < 256 := by
        have : j < ds.length := by have := hbl.out; omega
        simp only [Lm.lg, List.getD_eq_getElem?_getD, List.getElem?_eq_getElem this, Option.getD_some]
        exact hbs _ (List.getElem_mem this)
      have hy7 : y < 256 ^ 7 := by
        have h1 := Wr.beq_lt (Wr.small_take hbs j)
        have h2 : 256 ^ (ds.take j).length ≤ 256 ^ 7 := Nat.pow_le_pow_right (by omega) (by rw [List.length_take]; omega)
        have := hy.out
        omega
      have hst := Lib.hid (show Wr.beq (ds.take (j + 1)) = y * 256 + Lm.lg ds j by
        have : j < ds.length := by have := hbl.out; omega
        rw [List.take_add_one, List.getElem?_eq_getElem this, Option.toList_some, Wr.beq_snoc, hy.out]
        simp [Lm.lg, this])
      have hor := Lib.hid (or_digit hy7 hlt8)
      go_wp2
      exact ⟨⟨j + 1, y * 256 + Lm.lg ds j, by omega, by go_num, by rw [hor.out], trivial, hst.out.symm⟩, by simp [intOf]; omega⟩
    · have hd1 : decide ((j : Int) < (m : Int)) = false := by rw [decide_eq_false_iff_not]; omega
      have e : j = m := by omega
      subst e
      have e2 : ds.take j = ds := List.take_of_length_le (by have := hbl.out; omega)
      have e3 := hy.out
      rw [e2, ← HV.out] at e3
      subst e3
      go_wp2
      go_ret
      exact ⟨rfl, hD1.out, hG1.out⟩
set_option maxRecDepth 100000 in
theorem str_nums (l : List Nat) : strOfNums (l.map fun x : Nat => (x : Int)) = Wr.str l := by
  unfold strOfNums Wr.str
  rw [List.map_map]
  congr 2
set_option maxRecDepth 100000 in
/-- string(bytes). -/
theorem conv_bytes {w : World} {b o m c : Nat} {l : List Nat} (h : By w (some ⟨b, o, none⟩) m c l) : (convert 31 9 (.slice (some ⟨b, o, none⟩) m c)).run Try.prog w = .ok (.string (Wr.str l)) w := by
  have hl := h.1
  rw [← str_nums]
  refine run_convert_bytes_arg (P := Try.prog) w 31 5 und_bytes (by kernel_rfl) b o m c (l.map fun x : Nat => (x : Int)) (by simp [hl]) (fun i hi => ?_) 9 (by kernel_rfl)
  obtain ⟨b', o', e, _, hc⟩ := h.2.2.2 (by omega)
  cases e
  rw [hc i hi]
  simp [Lm.lg, hl, hi]
end Go.Proofs.Ytomohdfcggghoaa

namespace Go.Proofs.Ytomohdfcggghoaa
open Go.RowKit

set_option maxRecDepth 100000 in
theorem blk_keep {w w' : World} {g b : Nat} {o : Obj} (h : w.heap[b]? = some o) (k : w.grownBy w' (some g)) (hn : b ≠ g) : w'.heap[b]? = some o :=
  (k.block b (Array.getElem?_eq_some_iff.1 h).1 (fun e => hn (by cases e; rfl))).trans h
set_option maxRecDepth 100000 in
theorem make_u64 (n : Nat) (hn : n ≤ 100000) (w : World) :
    (Instr.makeSlice 22 (.int .u64 (n : Int)) (.int .u64 (n : Int))).run Try.prog w = .ok (.slice (some ⟨w.heap.size, 0, none⟩) n n) (w.alloc (.cells (arr (List.replicate n 0)) 65)) := by
  obtain ⟨i, hi, hz, hs, hb⟩ := info_limb'
  have h := run_make (P := Try.prog) w 22 65 i (.int .u32 0) und_limbs hi hz .u64 .u64 n n (by omega) (by omega) (by rw [hb]; omega) (by omega)
  rw [hs] at h
  simp only [Int.toNat_natCast] at h
  rw [h, arr_made]

/-- What integer leaves, where it ends well. -/
def IgP (w : World) (g : Nat) (A : Option Addr) (n c : Nat) (B : List Nat) (a p : Nat) (e : Ending) (w' : World) : Prop :=
  ∃ M, e = .returned (.agg #[.bool (decide (Wr.val B a 1 = 1)), .slice (some ⟨M, 0, none⟩) (Wr.val B (a + 1) 1) (Wr.val B (a + 1) 1)]) ∧ w.heap.size ≤ M ∧ Lim w' (some ⟨M, 0, none⟩) (Wr.val B (a + 1) 1) (Wr.val B (a + 1) 1) (Wr.limbsAt B (a + 2) (Wr.val B (a + 1) 1)) ∧
    Ds w' g A n c B (a + 2 + 4 * Wr.val B (a + 1) 1) p ∧ w.grownBy w' (some g)
/-- The bytes are none of an integer's. -/
def IgBad (n : Nat) (B : List Nat) (a : Nat) : Prop := n < a + 1 ∨ 1 < Wr.val B a 1 ∨ n < a + 2 ∨ n < a + 2 + 4 * Wr.val B (a + 1) 1
def IgQ (w : World) (g : Nat) (A : Option Addr) (n c : Nat) (B : List Nat) (a p : Nat) (e : Ending) (w' : World) : Prop :=
  (IgBad n B a ∧ PanP w g e w') ∨ (¬ IgBad n B a ∧ IgP w g A n c B a p e w')

set_option maxRecDepth 100000 in
theorem Ds.alloc {w : World} {g n c a p : Nat} {A : Option Addr} {B : List Nat} (h : Ds w g A n c B a p) (o : Obj) : Ds (w.alloc o) g A n c B a p :=
  h.next (World.grownBy_alloc w o _) (h.bx.keep (Below.heap_alloc w o g h.bx.lt)) h.le
set_option maxRecDepth 100000 in
theorem Ds.drew {w : World} {g n c a p : Nat} {A : Option Addr} {B : List Nat} (h : Ds w g A n c B a p) : Ds w.drew g A n c B a p :=
  h.next (grown_drew (World.grownBy.refl _ _)) h.bx h.le
set_option maxRecDepth 100000 in
theorem Ds.setO {w : World} {g n c a p : Nat} {A : Option Addr} {B : List Nat} (h : Ds w g A n c B a p) {b : Nat} (hb : b ≠ g) (ha : 0 < n → Av A b) (i : Nat) (v : Value) : Ds (w.setCell ⟨b, i, none⟩ v) g A n c B a p := by
  refine ⟨h.bx.keep (Below.heap_setCell w ⟨b, i, none⟩ v g (fun e => hb (by rw [e]))), ?_, h.av, h.cap, h.le⟩
  exact h.by'.keep ha (grown_set (World.grownBy.refl _ _))
set_option maxRecDepth 100000 in
theorem grown_any {w w' : World} {g b : Nat} (h : w.grownBy w' (some g)) (i : Nat) (v : Value) (hb : w.heap.size ≤ b) : w.grownBy (w'.setCell ⟨b, i, none⟩ v) (some g) :=
  ⟨h.os, h.tape, h.output, by simpa [World.setCell] using h.size, fun k hk hne => (Below.heap_setCell w' ⟨b, i, none⟩ v k (by simp only; omega)).trans (h.block k hk hne)⟩
set_option maxRecDepth 100000 in
theorem By.blk {w : World} {A : Option Addr} {n c : Nat} {l : List Nat} (h : By w A n c l) {b : Nat} (hb : w.heap.size ≤ b) : 0 < n → Av A b := by
  intro hn
  obtain ⟨b', o, e, hlt, _⟩ := h.2.2.2 hn
  subst e
  intro e
  have : b' = b := by simpa using e
  omega
set_option maxRecDepth 100000 in
theorem row_set {w : World} {L j x : Nat} {t : List Nat} (h : w.heap[L]? = some (.cells (arr t) 65 (0, 0))) : (w.setCell ⟨L, j, none⟩ (.int .u32 (x : Int))).heap[L]? = some (.cells (arr (t.set j x)) 65 (0, 0)) := by
  rw [← arr_set]
  simp [World.setCell, Array.getElem?_modify, h]
set_option maxRecDepth 100000 in
theorem blk_set {w : World} {b L : Nat} {o : Obj} (h : w.heap[b]? = some o) (hn : b ≠ L) (j : Nat) (v : Value) : (w.setCell ⟨L, j, none⟩ v).heap[b]? = some o := (Below.heap_setCell w ⟨L, j, none⟩ v b hn).trans h
set_option maxRecDepth 100000 in
theorem wrap_val {x : Nat} (h : x < 4294967296) : IntKind.u32.wrap (x : Int) = (x : Int) := by rw [IntKind.wrap_u32]; omega
set_option maxRecDepth 100000 in
theorem limbsAt_take (B : List Nat) (a m j : Nat) (h : j < m) : Lm.lg (Wr.limbsAt B a m) j = Wr.val B (a + 4 * j) 4 := by
  simp [Lm.lg, Wr.limbsAt, h]

set_option maxRecDepth 100000 in
set_option maxHeartbeats 4000000 in
theorem integer7_any (w : World) (g : Nat) (A : Option Addr) (n c : Nat) (B : List Nat) (a p : Nat) (h : Ds w g A n c B a p) :
    Calls Try.prog 51 #[.pointer (some ⟨g, 0, none⟩)] w (IgQ w g A n c B a p) := by
  have hglt := h.bx.lt
  have hBs := h.by'.2.2.1
  have hA := World.grownBy_alloc w (.cells #[.bool false, .slice none 0 0] 24) (some g)
  have h0 := h.alloc (.cells #[.bool false, .slice none 0 0] 24)
  have K0 := heap_alloc_new w (.cells #[.bool false, .slice none 0 0] 24)
  have hs0 : (w.alloc (.cells #[.bool false, .slice none 0 0] 24)).heap.size = w.heap.size + 1 := by simp
  go_enter Try.func51, Try.ntmps51
  go_wp2_with fail
  generalize w.alloc (.cells #[.bool false, .slice none 0 0] 24) = W at *
  by_cases c1 : n < a + 1
  · refine (number_no W g A n c B a p 1 h0 c1 1 rfl).mono ?_
    rintro e w1 ⟨rfl, hg⟩
    go_wp2
    exact ⟨rfl, .inl ⟨.inl c1, rfl, grown_tr hA hg⟩⟩
  refine (number_ok W g A n c B a p 1 h0 (by omega) (by omega) (by omega) 1 rfl).mono ?_
  rintro e w1 ⟨rfl, d1, hg1⟩
  have K1 := blk_keep K0 hg1 (by omega)
  have G1 := grown_tr hA hg1
  have hs1 := hg1.size
  have v1 : Wr.val B a 1 < 256 := Wr.val_lt hBs a 1
  clear K0 hg1 hA h0
  by_cases c2 : 1 < Wr.val B a 1
  · have e2 : (1 : Int) < ((Wr.val B a 1 : Nat) : Int) := by omega
    go_wp2
    exact ⟨rfl, .inl ⟨.inr (.inl c2), rfl, G1⟩⟩
  have e2 : ¬ (1 : Int) < ((Wr.val B a 1 : Nat) : Int) := by omega
  obtain ⟨ng, hng0⟩ : ∃ ng, ng = Wr.val B a 1 := ⟨_, rfl⟩
  rw [← hng0] at e2 ⊢
  have hng := Lib.hid hng0
  clear hng0
  go_wp2_with fail
  by_cases c3 : n < a + 2
  · refine (number_no w1 g A n c B (a + 1) p 1 d1 (by omega) 1 rfl).mono ?_
    rintro e w2 ⟨rfl, hg⟩
    go_wp2
    exact ⟨rfl, .inl ⟨.inr (.inr (.inl c3)), rfl, grown_tr G1 hg⟩⟩
  refine (number_ok w1 g A n c B (a + 1) p 1 d1 (by omega) (by omega) (by omega) 1 rfl).mono ?_
  rintro e w2 ⟨rfl, d2, hg2⟩
  have K2 := blk_keep K1 hg2 (by omega)
  have G2 := grown_tr G1 hg2
  have hs2 := hg2.size
  have vm : Wr.val B (a + 1) 1 < 256 := Wr.val_lt hBs (a + 1) 1
  have dd : Ds w2 g A n c B (a + 2) p := d2
  have HB0 := Lib.hid (show IgBad n B a ↔ n < a + 2 + 4 * Wr.val B (a + 1) 1 from ⟨fun h => by unfold IgBad at h; omega, fun h => .inr (.inr (.inr h))⟩)
  have HNG := Lib.hid (show decide (Wr.val B a 1 = 1) = ((ng : Int) == 1) by rw [← hng.out]; by_cases e : ng = 1 <;> simp [e]; omega)
  clear K1 hg2 G1 d1 d2 e2 hng c1 c2
  obtain ⟨m, hm⟩ : ∃ m, m = Wr.val B (a + 1) 1 := ⟨_, rfl⟩
  rw [← hm] at vm HB0 ⊢
  have HM := Lib.hid hm
  clear hm
  generalize ((ng : Int) == 1) = NG at *
  have hmk := fun w => make_u64 m (by omega) w
  have z1 : ∀ o, (w2.alloc o).heap.size = w2.heap.size + 1 := fun o => by simp
  have KA := Below.heap_alloc (w2.alloc (.cells (arr (List.replicate m 0)) 65)) (.cells #[.bool NG, .slice (some ⟨w2.heap.size, 0, none⟩) m m] 24) w2.heap.size (by simp)
  rw [heap_alloc_new w2 (.cells (arr (List.replicate m 0)) 65)] at KA
  have KB := Box.new (w2.alloc (.cells (arr (List.replicate m 0)) 65)) (.bool NG) (.slice (some ⟨w2.heap.size, 0, none⟩) m m)
  rw [z1] at KB
  have KC := blk_keep K2 (grown_tr (World.grownBy_alloc w2 (.cells (arr (List.replicate m 0)) 65) (some g)) (World.grownBy_alloc _ (.cells #[.bool NG, .slice (some ⟨w2.heap.size, 0, none⟩) m m] 24) (some g))) (by omega)
  have KD := (dd.alloc (.cells (arr (List.replicate m 0)) 65)).alloc (.cells #[.bool NG, .slice (some ⟨w2.heap.size, 0, none⟩) m m] 24)
  have KE := grown_tr (grown_tr G2 (World.grownBy_alloc w2 (.cells (arr (List.replicate m 0)) 65) (some g))) (World.grownBy_alloc _ (.cells #[.bool NG, .slice (some ⟨w2.heap.size, 0, none⟩) m m] 24) (some g))
  go_wp2_with fail
  generalize (w2.alloc (.cells (arr (List.replicate m 0)) 65)).alloc (.cells #[.bool NG, .slice (some ⟨w2.heap.size, 0, none⟩) m m] 24) = W3 at *
  have hne1 : w2.heap.size ≠ g := by omega
  have hne2 : w2.heap.size + 1 ≠ g := by omega
  have hav : 0 < n → Av A w2.heap.size := dd.by'.blk (Nat.le_refl _)
  have hle2 : w.heap.size + 1 ≤ w2.heap.size := by omega
  clear K2 dd hmk z1 G2
  generalize w2.heap.size = L at *
  go_loopw [20] (fun i w' => ∃ (j : Nat) (t : List Nat), j ≤ m ∧ i = .int .i64 (j : Int) ∧ Box w' (L + 1) (.bool NG) (.slice (some ⟨L, 0, none⟩) m m) ∧ w'.heap[L]? = some (.cells (arr t) 65 (0, 0)) ∧ Hid (t.length = m) ∧ Hid (∀ x, x < j → Lm.lg t x = Wr.val B (a + 2 + 4 * x) 4) ∧ Lm.Small t ∧ w'.heap[w.heap.size]? = some (.cells #[.bool false, .slice none 0 0] 24 (0, 0)) ∧ Ds w' g A n c B (a + 2 + 4 * j) p ∧ w.grownBy w' (some g)) (fun i _ => m - (intOf i).toNat)
  case atStart => exact ⟨0, List.replicate m 0, Nat.zero_le _, rfl, KB, KA, List.length_replicate, fun x hx => by omega, (fun x hx => by rw [List.mem_replicate] at hx; omega), KC, KD, KE⟩
  case round =>
    clear KA KB KC KD KE
    obtain ⟨j, t, hj, rfl, bx, bl, htl, htv, hts, br, ds, gr⟩ := hrel
    by_cases hjm : j < m
    · have hd1 : decide ((j : Int) < (m : Int)) = true := by rw [decide_eq_true_iff]; omega
      have x1 := bx.c1
      by_cases hc : n < a + 2 + 4 * j + 4
      · go_wp2_with fail
        have dsd := ds.drew
        go_region_dies
        all_goals
          have Q := number_no wr.drew g A n c B (a + 2 + 4 * j) p 4 dsd hc 4 rfl
          (with_reducible refine Q.mono ?_)
          rintro e v1 ⟨rfl, hg⟩
          exact ⟨rfl, .inl ⟨HB0.out.2 (by omega), rfl, grown_tr (grown_drew gr) hg⟩⟩
      · have cj : wr.cell? ⟨L, j, none⟩ = some (.int .u32 (Lm.lg t j : Nat)) := by rw [cell_of_row wr L j (arr t) _ (0, 0) bl, arr_get (by have := htl.out; omega)]
        have vj : Wr.val B (a + 2 + 4 * j) 4 < 4294967296 := Wr.val_lt hBs (a + 2 + 4 * j) 4
        have x1d : wr.drew.cell? ⟨L + 1, 1, none⟩ = some (.slice (some ⟨L, 0, none⟩) m m) := x1
        have dsd := ds.drew
        have hjm' : (j : Int) < (m : Int) := by omega
        go_wp2_with fail
        go_region_held3 (fun w' => w'.cell? ⟨L + 1, 1, none⟩ = some (.slice (some ⟨L, 0, none⟩) m m))
          (first | with_reducible exact x1d | with_reducible exact y1 | exact (bx'.far (p := ⟨L, j, none⟩) (by simp only; omega) _).c1)
          (first | (go_at_call 50; have Q := number_ok wr.drew g A n c B (a + 2 + 4 * j) p 4 dsd (by omega) (by omega) (by omega) 4 rfl; (with_reducible refine Q.mono ?_); clear Q; rintro e v1 ⟨rfl, dv, gv⟩; have gv' := grown_tr (grown_drew (World.grownBy.refl wr (some g))) gv; have bx' : Box v1 (L + 1) (.bool NG) (.slice (some ⟨L, 0, none⟩) m m) := blk_keep bx gv' hne2; have bl' := blk_keep bl gv' hne1; have br' := blk_keep br gv' (by omega); have gr' := grown_tr gr gv'; have y1 := bx'.c1; have z1 : v1.cell? ⟨L, j, none⟩ = some (.int .u32 (Lm.lg t j : Nat)) := (by rw [cell_of_row v1 L j (arr t) _ (0, 0) bl', arr_get (by have := htl.out; omega)]); have z2 : v1.frozen? ⟨L, j, none⟩ = false := (by simp [World.frozen?, bl']); clear bx bl br gr ds dsd gv x1 x1d cj))
        have hw := wrap_val vj
        rw [hw]
        have R1 := row_set (j := j) (x := Wr.val B (a + 2 + 4 * j) 4) bl'
        have R2 : Box (v1.setCell ⟨L, j, none⟩ (.int .u32 ((Wr.val B (a + 2 + 4 * j) 4 : Nat) : Int))) (L + 1) (.bool NG) (.slice (some ⟨L, 0, none⟩) m m) := blk_set bx' (by omega) j _
        have R3 := blk_set br' (L := L) (by omega) j (.int .u32 ((Wr.val B (a + 2 + 4 * j) 4 : Nat) : Int))
        have R4 := dv.setO hne1 hav j (.int .u32 ((Wr.val B (a + 2 + 4 * j) 4 : Nat) : Int))
        have R5 := grown_any gr' (b := L) j (.int .u32 ((Wr.val B (a + 2 + 4 * j) 4 : Nat) : Int)) (by omega)
        generalize v1.setCell ⟨L, j, none⟩ (.int .u32 ((Wr.val B (a + 2 + 4 * j) 4 : Nat) : Int)) = W9 at *
        clear bx' bl' br' gr' y1 z1 z2 dv gv' hw
        go_wp2
        refine ⟨⟨j + 1, t.set j (Wr.val B (a + 2 + 4 * j) 4), by omega, by go_num, R2, R1, by rw [List.length_set]; exact htl, fun x hx => ?_, ?_, R3, R4, R5⟩, by simp [intOf]; omega⟩
        · by_cases e : x = j
          · subst e
            simp [Lm.lg, htl.out, hjm]
          · rw [← htv.out x (by omega)]
            simp [Lm.lg, show ¬ j = x from fun h => e h.symm]
        · intro x hx
          rcases List.mem_or_eq_of_mem_set hx with hx | rfl
          · exact hts x hx
          · exact vj
    · have hd1 : decide ((j : Int) < (m : Int)) = false := by rw [decide_eq_false_iff_not]; omega
      have e : j = m := by omega
      subst e
      have x0 := bx.c0
      have x1 := bx.c1
      have r0 : wr.cell? ⟨w.heap.size, 0, none⟩ = some (.bool false) := by rw [cell_of_row wr w.heap.size 0 _ _ (0, 0) br]; rfl
      have r1 : wr.cell? ⟨w.heap.size, 1, none⟩ = some (.slice none 0 0) := by rw [cell_of_row wr w.heap.size 1 _ _ (0, 0) br]; rfl
      have f0 : wr.frozen? ⟨w.heap.size, 0, none⟩ = false := by simp [World.frozen?, br]
      have f1 : wr.frozen? ⟨w.heap.size, 1, none⟩ = false := by simp [World.frozen?, br]
      go_wp2
      have hval : t = Wr.limbsAt B (a + 2) j := Lm.eq_of_lg (by rw [htl.out, Wr.limbsAt_len]) (fun x hx => by rw [htv.out x (by have := htl.out; omega), limbsAt_take _ _ _ _ (by have := htl.out; omega)])
      have R1 := blk_set (blk_set bl (L := w.heap.size) (by omega) 0 (.bool NG)) (L := w.heap.size) (by omega) 1 (.slice (some ⟨L, 0, none⟩) j j)
      have hgn : w.heap.size ≠ g := by omega
      have hav2 : 0 < n → Av A w.heap.size := h.by'.blk (Nat.le_refl _)
      have R2 := (ds.setO hgn hav2 0 (.bool NG)).setO hgn hav2 1 (.slice (some ⟨L, 0, none⟩) j j)
      have R3 := grown_any (grown_any gr (b := w.heap.size) 0 (.bool NG) (Nat.le_refl _)) (b := w.heap.size) 1 (.slice (some ⟨L, 0, none⟩) j j) (Nat.le_refl _)
      have R4 : Box ((wr.setCell ⟨w.heap.size, 0, none⟩ (.bool NG)).setCell ⟨w.heap.size, 1, none⟩ (.slice (some ⟨L, 0, none⟩) j j)) w.heap.size (.bool NG) (.slice (some ⟨L, 0, none⟩) j j) := ((show Box wr w.heap.size (.bool false) (.slice none 0 0) from br).set0 (.bool NG)).set1 (.slice (some ⟨L, 0, none⟩) j j)
      clear x0 x1 r0 r1 f0 f1
      generalize (wr.setCell ⟨w.heap.size, 0, none⟩ (.bool NG)).setCell ⟨w.heap.size, 1, none⟩ (.slice (some ⟨L, 0, none⟩) j j) = W9 at *
      have q0 := R4.c0
      have q1 := R4.c1
      by_cases hbad : n < a + 2 + 4 * j
      · have := ds.le
        omega
      · refine bodyPost_ret (v := .agg #[.bool NG, .slice (some ⟨L, 0, none⟩) j j]) (by simp [results, Try.results51, go_sem, q0, q1]) rfl ?_
        refine .inr ⟨fun hb => hbad (HB0.out.1 hb), L, ?_, by omega, ?_, ?_, R3⟩
        · rw [← HM.out, HNG.out]
        · rw [← HM.out, ← hval]
          exact ⟨htl.out, Nat.le_refl _, hts, fun _ => ⟨L, 0, rfl, (Array.getElem?_eq_some_iff.1 R1).1, fun x hx => by rw [Nat.zero_add, cell_of_row W9 L x (arr t) _ (0, 0) R1, arr_get (by rw [htl.out]; exact hx)]⟩⟩
        · rw [← HM.out]; exact R2
end Go.Proofs.Ytomohdfcggghoaa

namespace Go.Proofs.Ytomohdfcggghoaa
open Go.RowKit

set_option maxRecDepth 100000 in
theorem Row7.grown {w w' : World} {base m d g : Nat} {B : Option Addr} {ts : List Tm} (h : Row7 w base B m d ts) (k : w.grownBy w' (some g)) (hg : g < base) : Row7 w' base B m d ts := by
  obtain ⟨V, h1, h2⟩ := h.ex
  have hK : Keeps (fun b => base ≤ b) w w' := ⟨k.size, fun b hb hl => k.block b hl (fun e => by cases e; omega)⟩
  refine ⟨h.len, V, ⟨h1.1, ?_⟩, fun i t e => ((h2 i t e).keep (hK.mono fun b hb => hb.1))⟩
  rcases h1.2 with h0 | ⟨b, cap, cur, hv, hbg, hgc, rest⟩
  · exact .inl h0
  · exact .inr ⟨b, cap, cur, hv, hbg, (k.block b (Array.getElem?_eq_some_iff.1 hgc).1 (fun e => by cases e; omega)).trans hgc, rest⟩

/-- What reading a term leaves. -/
def TrP (w : World) (g : Nat) (A : Option Addr) (n c : Nat) (B : List Nat) (x : Option (Tm × Nat × Nat)) (e : Ending) (w' : World) : Prop :=
  match x with
  | none => PanP w g e w'
  | some (t, q, a) => ∃ R : TR, e = .returned (.agg #[.int .i64 R.k, .int .i64 R.n, .bool R.g, .slice R.A R.ln R.lc, .int .u64 R.u, .string R.s, .slice R.B R.m R.d]) ∧ TVS (fun b => w.heap.size ≤ b) w' R t ∧ Ds w' g A n c B a q ∧ w.grownBy w' (some g)
/-- What reading terms leaves. -/
def TsP (w : World) (g : Nat) (A : Option Addr) (n c : Nat) (B : List Nat) (x : Option (List Tm × Nat × Nat)) (e : Ending) (w' : World) : Prop :=
  match x with
  | none => PanP w g e w'
  | some (ts, q, a) => ∃ X m d, e = .returned (.slice X m d) ∧ TVSs (fun b => w.heap.size ≤ b) w' X m d ts ∧ Ds w' g A n c B a q ∧ w.grownBy w' (some g)

set_option maxRecDepth 100000 in
set_option maxHeartbeats 4000000 in
theorem terms7_of (f : Nat) (g : Nat) (A : Option Addr) (n c : Nat) (B : List Nat)
    (ih : ∀ (w : World) (a p : Nat), p ≤ f → Ds w g A n c B a p → Calls Try.prog 39 #[.pointer (some ⟨g, 0, none⟩)] w (TrP w g A n c B (Wr.dec true B f p a)))
    (w : World) (a p m : Nat) (hp : p ≤ f) (h : Ds w g A n c B a p) (hm : m ≤ 255) (M : Int) (hM : M = (m : Int)) :
    Calls Try.prog 52 #[.pointer (some ⟨g, 0, none⟩), .int .i64 M] w (TsP w g A n c B (Wr.decs (Wr.dec true B f) m p a)) := by
  subst hM
  have IH := Lib.hid ih
  clear ih
  have hglt := h.bx.lt
  have hBs := h.by'.2.2.1
  go_enter Try.func52, Try.ntmps52
  go_wp2_with fail
  go_loopw [5, 7] (fun out i w' => ∃ (j d' q a' : Nat) (X : Option Addr) (ts : List Tm), j ≤ m ∧ i = .int .i64 (j : Int) ∧ out = .slice X j d' ∧ Row7 w' w.heap.size X j d' ts ∧ Hid (Wr.decs (Wr.dec true B f) j p a = some (ts, q, a')) ∧ q ≤ f ∧ Ds w' g A n c B a' q ∧ w.grownBy w' (some g)) (fun _ i _ => m - (intOf i).toNat)
  case atStart => exact ⟨0, 0, p, a, none, [], Nat.zero_le _, rfl, rfl, Row7.nil _ _, rfl, hp, h, World.grownBy.refl _ _⟩
  case round =>
    obtain ⟨j, d', q, a', X, ts, hj, rfl, rfl, row, hdec, hq, ds, gr⟩ := hrel
    by_cases hjm : j < m
    · have hd1 : decide ((j : Int) < (m : Int)) = true := by rw [decide_eq_true_iff]; omega
      have hst := Wr.decs_step hdec.out
      have Q := IH.out wr a' q hq ds
      go_wp2_with fail
      (with_reducible refine Q.mono ?_)
      clear Q
      cases hx : Wr.dec true B f q a' with
      | none =>
        rw [hx] at hst
        rintro e w2 ⟨rfl, hg2⟩
        go_wp2
        refine ⟨rfl, ?_⟩
        rw [Wr.decs_none (j := j + 1) hst m (by omega)]
        exact ⟨rfl, grown_tr gr hg2⟩
      | some y =>
        obtain ⟨t', q', a2⟩ := y
        rw [hx] at hst
        have hbk := Wr.dec_back hBs _ _ _ _ _ _ hx
        rintro e w2 ⟨R, rfl, hR, ds2, hg2⟩
        have hsz := gr.size
        have row2 := (row.grown hg2 hglt).below ((Below.refl _ _).alloc (Nat.le_refl _) (.cells #[.int .i64 R.k, .int .i64 R.n, .bool R.g, .slice R.A R.ln R.lc, .int .u64 R.u, .string R.s, .slice R.B R.m R.d] 28))
        have hlt2 : ∀ k, (Value.slice X j d').ownBlock = some k → k < wr.heap.size := by
          obtain ⟨V, h1, _⟩ := row.ex
          exact fun k hk => (h1.lt k hk).2
        have ht2 : TVS (fun b => w.heap.size ≤ b ∧ (Value.slice X j d').ownBlock ≠ some b) (w2.alloc (.cells #[.int .i64 R.k, .int .i64 R.n, .bool R.g, .slice R.A R.ln R.lc, .int .u64 R.u, .string R.s, .slice R.B R.m R.d] 28)) R t' :=
          (hR.keep (((Keeps.refl _ _).alloc _))).mono fun b h => ⟨Nat.le_trans hsz h, fun e => absurd (hlt2 b e) (by omega)⟩
        have hw2 : w.heap.size ≤ w2.heap.size := Nat.le_trans hsz hg2.size
        obtain ⟨B2, d2, w3, hrun, row3, hbr, hloc⟩ := row2.push ht2 ⟨w2.heap.size, 0, none⟩ 1 (fun k u hu => by
          rw [add_none, World.cell?_alloc_at _ _ _ _ rfl, Nat.zero_add]
          simpa [TR.cells] using hu) (by omega) (by simp; omega) 26
        have ga := World.grownBy_alloc w2 (.cells #[.int .i64 R.k, .int .i64 R.n, .bool R.g, .slice R.A R.ln R.lc, .int .u64 R.u, .string R.s, .slice R.B R.m R.d] 28) (some g)
        have hb3 : Below w.heap.size (w2.alloc (.cells #[.int .i64 R.k, .int .i64 R.n, .bool R.g, .slice R.A R.ln R.lc, .int .u64 R.u, .string R.s, .slice R.B R.m R.d] 28)) w3 := hbr
        have gr3 : w.grownBy w3 (some g) := by
          have g1 := grown_tr (grown_tr gr hg2) ga
          exact ⟨hb3.os.trans g1.os, hb3.tape.trans g1.tape, hb3.output.trans g1.output, Nat.le_trans g1.size hb3.size, fun k hk hne => (hb3.block k hk).trans (g1.block k hk hne)⟩
        have ds3 : Ds w3 g A n c B a2 q' := by
          have d := ds2.alloc (.cells #[.int .i64 R.k, .int .i64 R.n, .bool R.g, .slice R.A R.ln R.lc, .int .u64 R.u, .string R.s, .slice R.B R.m R.d] 28)
          refine ⟨d.bx.keep (hb3.block g hglt), ?_, d.av, d.cap, d.le⟩
          exact h.by'.keep h.av gr3
        have HR := Lib.hid hrun
        have HW := Lib.hid row3
        have HD := Lib.hid (show Wr.decs (Wr.dec true B f) (j + 1) p a = some (ts ++ [t'], q', a2) from hst)
        clear hrun row3 row2 ht2 row gr hg2 hR hlt2 hst hbr hb3 ga ds ds2 hloc
        go_wp2_with (at_builtin; refine wpList_append_run rfl _ _ _ rfl _ _ _ rfl rfl HR.out ?_)
        exact ⟨⟨j + 1, d2, q', a2, B2, ts ++ [t'], by omega, by go_num, rfl, HW.out, HD, by omega, ds3, gr3⟩, by simp [intOf]; omega⟩
    · have hd1 : decide ((j : Int) < (m : Int)) = false := by rw [decide_eq_false_iff_not]; omega
      have e : j = m := by omega
      subst e
      go_wp2_with fail
      go_ret
      rw [hdec.out]
      exact ⟨X, _, d', rfl, row.tvs, ds, gr⟩
end Go.Proofs.Ytomohdfcggghoaa

namespace Go.Proofs.Ytomohdfcggghoaa
open Go.RowKit

set_option maxRecDepth 100000 in
theorem Box7.set1 {w : World} {g : Nat} {r : TR} (h : Box7 w g r) (x : Int) : Box7 (w.setCell ⟨g, 1, none⟩ (.int .i64 x)) g ⟨r.k, x, r.g, r.A, r.ln, r.lc, r.u, r.s, r.B, r.m, r.d⟩ := by
  unfold Box7 at h ⊢
  simp [World.setCell, Array.getElem?_modify, h]
set_option maxRecDepth 100000 in
theorem Box7.set2 {w : World} {g : Nat} {r : TR} (h : Box7 w g r) (x : Bool) : Box7 (w.setCell ⟨g, 2, none⟩ (.bool x)) g ⟨r.k, r.n, x, r.A, r.ln, r.lc, r.u, r.s, r.B, r.m, r.d⟩ := by
  unfold Box7 at h ⊢
  simp [World.setCell, Array.getElem?_modify, h]
set_option maxRecDepth 100000 in
theorem Box7.set4 {w : World} {g : Nat} {r : TR} (h : Box7 w g r) (x : Int) : Box7 (w.setCell ⟨g, 4, none⟩ (.int .u64 x)) g ⟨r.k, r.n, r.g, r.A, r.ln, r.lc, x, r.s, r.B, r.m, r.d⟩ := by
  unfold Box7 at h ⊢
  simp [World.setCell, Array.getElem?_modify, h]
set_option maxRecDepth 100000 in
theorem Box7.set5 {w : World} {g : Nat} {r : TR} (h : Box7 w g r) (x : ByteArray) : Box7 (w.setCell ⟨g, 5, none⟩ (.string x)) g ⟨r.k, r.n, r.g, r.A, r.ln, r.lc, r.u, x, r.B, r.m, r.d⟩ := by
  unfold Box7 at h ⊢
  simp [World.setCell, Array.getElem?_modify, h]
set_option maxRecDepth 100000 in
theorem wrap_si {x : Nat} (h : x < 18446744073709551616) : IntKind.i64.wrap (x : Int) = Wr.si64 x := by
  rw [IntKind.wrap_i64]
  unfold Wr.si64
  split <;> omega
set_option maxRecDepth 100000 in
theorem si_bd {x : Nat} (h : x < 18446744073709551616) : -9223372036854775808 ≤ Wr.si64 x ∧ Wr.si64 x ≤ 9223372036854775807 := by
  unfold Wr.si64
  split <;> omega
set_option maxRecDepth 100000 in
/-- A leaf, and its blocks. -/
theorem TVS.leaf7 {S : Nat → Prop} {w : World} {k n u : Int} {s : ByteArray}
    (k0 : 0 ≤ k) (k1 : k ≤ 255) (n0 : -9223372036854775808 ≤ n) (n1 : n ≤ 9223372036854775807) (u0 : 0 ≤ u) (u1 : u ≤ 18446744073709551615) (hs : s.size ≤ 65535) :
    TVS S w ⟨k, n, false, none, 0, 0, u, s, none, 0, 0⟩ (.mk k n false [] u s []) :=
  TVS.node (TVSs.nil S w none 0 (Nat.zero_le _)) (by omega) (by omega) n0 n1 u0 u1 (by unfold maxLen; omega)

/-- Where term stands behind its switch. -/
structure Tw (w : World) (g L : Nat) (A : Option Addr) (n c : Nat) (B : List Nat) (x : Option (Tm × Nat × Nat)) (wx : World) (R : TR) (t : Tm) (q a : Nat) : Prop where
  eq : x = some (t, q, a)
  bx : Box7 wx L R
  br : Box7 wx w.heap.size zeroR
  tv : TVS (fun b => w.heap.size + 1 ≤ b) wx R t
  ds : Ds wx g A n c B a q
  gr : w.grownBy wx (some g)

set_option maxRecDepth 100000 in
set_option maxHeartbeats 1000000 in
theorem term7_zero (g : Nat) (A : Option Addr) (n c : Nat) (B : List Nat) (w : World) (a : Nat) (h : Ds w g A n c B a 0) :
    Calls Try.prog 39 #[.pointer (some ⟨g, 0, none⟩)] w (PanP w g) := by
  have y2 := (h.alloc (.cells #[.int .i64 zeroR.k, .int .i64 zeroR.n, .bool zeroR.g, .slice zeroR.A zeroR.ln zeroR.lc, .int .u64 zeroR.u, .string zeroR.s, .slice zeroR.B zeroR.m zeroR.d] 28)).bx.c2
  have g0 := World.grownBy_alloc w (.cells #[.int .i64 zeroR.k, .int .i64 zeroR.n, .bool zeroR.g, .slice zeroR.A zeroR.ln zeroR.lc, .int .u64 zeroR.u, .string zeroR.s, .slice zeroR.B zeroR.m zeroR.d] 28) (some g)
  go_enter Try.func39, Try.ntmps39
  go_wp2
  exact ⟨rfl, rfl, g0⟩

set_option maxRecDepth 100000 in
set_option maxHeartbeats 4000000 in
theorem term7_step (f : Nat) (g : Nat) (A : Option Addr) (n c : Nat) (B : List Nat)
    (ih : ∀ (w : World) (a p : Nat), p ≤ f → Ds w g A n c B a p → Calls Try.prog 39 #[.pointer (some ⟨g, 0, none⟩)] w (TrP w g A n c B (Wr.dec true B f p a)))
    (w : World) (a p : Nat) (hf : f ≤ 1000) (hp : p ≤ f + 1) (h : Ds w g A n c B a p) :
    Calls Try.prog 39 #[.pointer (some ⟨g, 0, none⟩)] w (TrP w g A n c B (Wr.dec true B (f + 1) p a)) := by
  have IH := Lib.hid ih
  clear ih
  have hglt := h.bx.lt
  have hBs := h.by'.2.2.1
  have hBl : B.length = n := h.by'.1
  obtain ⟨X, hX⟩ : ∃ X, X = Wr.dec true B (f + 1) p a := ⟨_, rfl⟩
  rw [← hX]
  rw [Wr.dec, hBl] at hX
  have HX := Lib.hid hX
  clear hX
  have hBL := Lib.hid hBl
  clear hBl
  go_enter Try.func39, Try.ntmps39
  rcases p with _ | p
  · have y2 := (h.alloc (.cells #[.int .i64 zeroR.k, .int .i64 zeroR.n, .bool zeroR.g, .slice zeroR.A zeroR.ln zeroR.lc, .int .u64 zeroR.u, .string zeroR.s, .slice zeroR.B zeroR.m zeroR.d] 28)).bx.c2
    have g0 := World.grownBy_alloc w (.cells #[.int .i64 zeroR.k, .int .i64 zeroR.n, .bool zeroR.g, .slice zeroR.A zeroR.ln zeroR.lc, .int .u64 zeroR.u, .string zeroR.s, .slice zeroR.B zeroR.m zeroR.d] 28) (some g)
    go_wp2
    refine ⟨rfl, ?_⟩
    have e := HX.out
    rw [if_pos (.inl trivial)] at e
    rw [e]
    exact ⟨rfl, g0⟩
  have ep : ((p + 1 : Nat) : Int) = (p : Int) + 1 := by simp
  have y2 := (h.alloc (.cells #[.int .i64 zeroR.k, .int .i64 zeroR.n, .bool zeroR.g, .slice zeroR.A zeroR.ln zeroR.lc, .int .u64 zeroR.u, .string zeroR.s, .slice zeroR.B zeroR.m zeroR.d] 28)).bx.c2
  have f2 := (h.alloc (.cells #[.int .i64 zeroR.k, .int .i64 zeroR.n, .bool zeroR.g, .slice zeroR.A zeroR.ln zeroR.lc, .int .u64 zeroR.u, .string zeroR.s, .slice zeroR.B zeroR.m zeroR.d] 28)).bx.fz 2
  rw [ep] at y2
  have x2 := h.bx.c2
  have e2 := h.bx.fz 2
  rw [ep] at x2
  have d0 : Ds (w.setCell ⟨g, 2, none⟩ (.int .i64 (p : Int))) g A n c B a p := h.next (grown_set (World.grownBy.refl _ _)) (h.bx.set2 p) h.le
  have g0 : w.grownBy (w.setCell ⟨g, 2, none⟩ (.int .i64 (p : Int))) (some g) := grown_set (World.grownBy.refl _ _)
  have s0 : (w.setCell ⟨g, 2, none⟩ (.int .i64 (p : Int))).heap.size = w.heap.size := by simp [World.setCell]
  have d1 := d0.alloc (.cells #[.int .i64 zeroR.k, .int .i64 zeroR.n, .bool zeroR.g, .slice zeroR.A zeroR.ln zeroR.lc, .int .u64 zeroR.u, .string zeroR.s, .slice zeroR.B zeroR.m zeroR.d] 28)
  have g1 := grown_tr g0 (World.grownBy_alloc _ (.cells #[.int .i64 zeroR.k, .int .i64 zeroR.n, .bool zeroR.g, .slice zeroR.A zeroR.ln zeroR.lc, .int .u64 zeroR.u, .string zeroR.s, .slice zeroR.B zeroR.m zeroR.d] 28) (some g))
  have K1 := Box7.new (w.setCell ⟨g, 2, none⟩ (.int .i64 (p : Int))) zeroR
  rw [s0] at K1
  have s1 : ((w.setCell ⟨g, 2, none⟩ (.int .i64 (p : Int))).alloc (.cells #[.int .i64 zeroR.k, .int .i64 zeroR.n, .bool zeroR.g, .slice zeroR.A zeroR.ln zeroR.lc, .int .u64 zeroR.u, .string zeroR.s, .slice zeroR.B zeroR.m zeroR.d] 28)).heap.size = w.heap.size + 1 := by rw [World.size_alloc, s0]
  go_wp2_with fail
  generalize (w.setCell ⟨g, 2, none⟩ (.int .i64 (p : Int))).alloc (.cells #[.int .i64 zeroR.k, .int .i64 zeroR.n, .bool zeroR.g, .slice zeroR.A zeroR.ln zeroR.lc, .int .u64 zeroR.u, .string zeroR.s, .slice zeroR.B zeroR.m zeroR.d] 28) = W1 at *
  clear d0 g0 s0 y2 f2 x2 e2 ep
  have hX2 := HX.out
  clear HX
  by_cases c1 : n < a + 1
  · rw [if_pos (.inr c1)] at hX2
    have HX2 := Lib.hid hX2
    clear hX2
    refine (number_no W1 g A n c B a p 1 d1 c1 1 rfl).mono ?_
    rintro e w1 ⟨rfl, hg⟩
    go_wp2
    refine ⟨rfl, ?_⟩
    rw [HX2.out]
    exact ⟨rfl, grown_tr g1 hg⟩
  rw [if_neg (by omega), Nat.add_sub_cancel] at hX2
  have HX2 := Lib.hid hX2
  clear hX2
  refine (number_ok W1 g A n c B a p 1 d1 (by omega) (by omega) (by omega) 1 rfl).mono ?_
  rintro e w2 ⟨rfl, d2, hg2⟩
  have K2 : Box7 w2 w.heap.size zeroR := blk_keep K1 hg2 (by omega)
  have g2 := grown_tr g1 hg2
  have s2 := hg2.size
  have hk8 : Wr.val B a 1 < 256 := Wr.val_lt hBs a 1
  clear K1 g1 d1 hg2
  generalize Wr.val B a 1 = k at *
  obtain ⟨kz, hkz⟩ : ∃ kz : Int, kz = (k : Int) := ⟨_, rfl⟩
  rw [← hkz]
  have L0 := Box7.new w2 ⟨kz, 0, false, none, 0, 0, 0, ⟨#[]⟩, none, 0, 0⟩
  have d3 := d2.alloc (.cells #[.int .i64 kz, .int .i64 0, .bool false, .slice none 0 0, .int .u64 0, .string ⟨#[]⟩, .slice none 0 0] 28)
  have g3 := grown_tr g2 (World.grownBy_alloc w2 (.cells #[.int .i64 kz, .int .i64 0, .bool false, .slice none 0 0, .int .u64 0, .string ⟨#[]⟩, .slice none 0 0] 28) (some g))
  have K3 : Box7 (w2.alloc (.cells #[.int .i64 kz, .int .i64 0, .bool false, .slice none 0 0, .int .u64 0, .string ⟨#[]⟩, .slice none 0 0] 28)) w.heap.size zeroR := blk_keep K2 (World.grownBy_alloc w2 _ (some g)) (by omega)
  have s3 : (w2.alloc (.cells #[.int .i64 kz, .int .i64 0, .bool false, .slice none 0 0, .int .u64 0, .string ⟨#[]⟩, .slice none 0 0] 28)).heap.size = w2.heap.size + 1 := by simp
  have hw : IntKind.i64.wrap kz = kz := by rw [IntKind.wrap_i64]; omega
  have hk0 : 0 ≤ kz := by omega
  have hk1 : kz < 256 := by omega
  have HK := Lib.hid hkz
  clear hkz K2 d2 g2
  go_upto_block 0 with fail
  generalize w2.alloc (.cells #[.int .i64 kz, .int .i64 0, .bool false, .slice none 0 0, .int .u64 0, .string ⟨#[]⟩, .slice none 0 0] 28) = W3 at *
  have hLg : w2.heap.size ≠ g := by omega
  have hLw : w.heap.size + 1 ≤ w2.heap.size := by omega
  have hav : 0 < n → Av A w2.heap.size := h.by'.blk (by omega)
  generalize w2.heap.size = L at *
  clear hw s1 s2
  go_cut [22] from 23 to 70 (fun _ wx => ∃ R t q a', Tw w g L A n c B X wx R t q a')
  case first =>
    by_cases hk : k = 1
    · clear hk0 hk1
      have eX := HX2.out
      rw [if_pos hk] at eX
      have ez : kz = 1 := by rw [HK.out, hk]; rfl
      subst ez
      by_cases cc : n < a + 9
      · rw [if_pos cc] at eX
        have EX := Lib.hid eX
        clear eX HX2
        go_wp2_with fail
        refine (number_no W3 g A n c B (a + 1) p 8 d3 (by omega) 8 rfl).mono ?_
        rintro e w4 ⟨rfl, hg⟩
        go_wp2
        refine ⟨rfl, ?_⟩
        rw [EX.out]
        exact ⟨rfl, grown_tr g3 hg⟩
      · rw [if_neg cc] at eX
        have EX := Lib.hid eX
        clear eX HX2
        go_wp2_with fail
        refine (number_ok W3 g A n c B (a + 1) p 8 d3 (by omega) (by omega) (by omega) 8 rfl).mono ?_
        rintro e w4 ⟨rfl, d4, hg4⟩
        have L4 : Box7 w4 L _ := blk_keep L0 hg4 hLg
        have K4 : Box7 w4 w.heap.size zeroR := blk_keep K3 hg4 (by omega)
        have g4 := grown_tr g3 hg4
        have vb : Wr.val B (a + 1) 8 < 256 ^ 8 := Wr.val_lt hBs (a + 1) 8
        generalize Wr.val B (a + 1) 8 = x at *
        have fz := L4.frozen 1
        have cz := L4.at.c1
        have hw8 := wrap_si (x := x) vb
        have sb := si_bd (x := x) vb
        generalize Wr.si64 x = sx at *
        clear L0 K3 d3 g3 hg4
        go_wp2
        go_meet
        exact ⟨_, _, _, _, ⟨EX.out, L4.set1 sx, blk_set K4 (by omega) 1 _, TVS.leaf7 (k := 1) (n := sx) (u := 0) (s := ⟨#[]⟩) (by omega) (by omega) sb.1 sb.2 (by omega) (by omega) (by decide), d4.setO hLg hav 1 _, grown_any g4 1 _ (by omega)⟩⟩
    have n1 := hk
    clear hk
    have b1 : (kz == 1) = false := by rw [beq_eq_false_iff_ne, HK.out]; omega
    by_cases hk : k = 2
    · clear hk0 hk1
      have eX := HX2.out
      rw [if_neg n1, if_pos hk] at eX
      have ez : kz = 2 := by rw [HK.out, hk]; rfl
      subst ez
      have Q := integer7_any W3 g A n c B (a + 1) p d3
      by_cases cc : n < a + 2 ∨ 1 < Wr.val B (a + 1) 1 ∨ n < a + 3 ∨ n < a + 3 + 4 * Wr.val B (a + 2) 1
      · rw [if_pos cc] at eX
        have EX := Lib.hid eX
        clear eX HX2
        go_wp2_with fail
        (with_reducible refine Q.mono ?_)
        rintro e w4 (⟨-, rfl, hg⟩ | ⟨hn, -⟩)
        · go_wp2
          refine ⟨rfl, ?_⟩
          rw [EX.out]
          exact ⟨rfl, grown_tr g3 hg⟩
        · exact absurd cc hn
      · rw [if_neg cc] at eX
        have EX := Lib.hid eX
        clear eX HX2
        go_wp2_with fail
        (with_reducible refine Q.mono ?_)
        rintro e w4 (⟨hn, -⟩ | ⟨-, M, rfl, hM, hl, d4, hg4⟩)
        · exact absurd hn cc
        have L4 : Box7 w4 L _ := blk_keep L0 hg4 hLg
        have K4 : Box7 w4 w.heap.size zeroR := blk_keep K3 hg4 (by omega)
        have g4 := grown_tr g3 hg4
        have d4' : Ds w4 g A n c B (a + 3 + 4 * Wr.val B (a + 2) 1) p := d4
        have hl' : Lim w4 (some ⟨M, 0, none⟩) (Wr.val B (a + 2) 1) (Wr.val B (a + 2) 1) (Wr.limbsAt B (a + 3) (Wr.val B (a + 2) 1)) := hl
        have vb : Wr.val B (a + 2) 1 < 256 := Wr.val_lt hBs (a + 2) 1
        have e12 : a + 1 + 1 = a + 2 := rfl
        rw [e12]
        generalize Wr.limbsAt B (a + 3) (Wr.val B (a + 2) 1) = ls at *
        generalize Wr.val B (a + 2) 1 = x at *
        generalize decide (Wr.val B (a + 1) 1 = 1) = sg at *
        have f2 := L4.frozen 2
        have f3 := L4.frozen 3
        have y2 := L4.at.c2
        have y3 := L4.at.c3
        have hl2 : Lim ((w4.setCell ⟨L, 2, none⟩ (.bool sg)).setCell ⟨L, 3, none⟩ (.slice (some ⟨M, 0, none⟩) x x)) (some ⟨M, 0, none⟩) x x ls :=
          hl'.keep (S := fun b => L + 1 ≤ b) (fun _ a e => by cases e; simp only; omega) (((Keeps.refl _ w4).setCell (p := ⟨L, 2, none⟩) (by simp only; omega) _).setCell (p := ⟨L, 3, none⟩) (by simp only; omega) _)
        clear L0 K3 d3 g3 hg4 Q hl hl' d4 cc
        go_wp2
        go_meet
        refine ⟨_, _, _, _, ⟨EX.out, (L4.set2 sg).set3 (some ⟨M, 0, none⟩) x x, blk_set (blk_set K4 (by omega) 2 _) (by omega) 3 _, ?_, (d4'.setO hLg hav 2 _).setO hLg hav 3 _, grown_any (grown_any g4 2 _ (by omega)) 3 _ (by omega)⟩⟩
        exact .mk ⟨2, 0, sg, some ⟨M, 0, none⟩, x, x, 0, ⟨#[]⟩, none, 0, 0⟩ ls [] (fun _ => default) ⟨by simp only; omega, by simp only; omega, by simp only; omega, by simp only; omega, by simp only; omega, by simp only; omega, hl2, by unfold maxLen; simp only; omega, (by show 0 ≤ maxLen; exact Nat.zero_le _), Nat.le_refl _, Nat.zero_le _⟩ rfl (fun h => absurd h (by simp)) ⟨fun _ a e => by cases e; simp only; omega, fun h => absurd h (by simp)⟩ (fun i t e => by simp at e)
    have n2 := hk
    clear hk
    have b2 : (kz == 2) = false := by rw [beq_eq_false_iff_ne, HK.out]; omega
    by_cases hk : k = 3
    · clear hk0 hk1
      have eX := HX2.out
      rw [if_neg n1, if_neg n2, if_pos hk] at eX
      have ez : kz = 3 := by rw [HK.out, hk]; rfl
      subst ez
      by_cases cc : n < a + 9
      · rw [if_pos cc] at eX
        have EX := Lib.hid eX
        clear eX HX2
        go_wp2_with fail
        refine (number_no W3 g A n c B (a + 1) p 8 d3 (by omega) 8 rfl).mono ?_
        rintro e w4 ⟨rfl, hg⟩
        go_wp2
        refine ⟨rfl, ?_⟩
        rw [EX.out]
        exact ⟨rfl, grown_tr g3 hg⟩
      · rw [if_neg cc] at eX
        have EX := Lib.hid eX
        clear eX HX2
        go_wp2_with fail
        refine (number_ok W3 g A n c B (a + 1) p 8 d3 (by omega) (by omega) (by omega) 8 rfl).mono ?_
        rintro e w4 ⟨rfl, d4, hg4⟩
        have L4 : Box7 w4 L _ := blk_keep L0 hg4 hLg
        have K4 : Box7 w4 w.heap.size zeroR := blk_keep K3 hg4 (by omega)
        have g4 := grown_tr g3 hg4
        have vb : Wr.val B (a + 1) 8 < 256 ^ 8 := Wr.val_lt hBs (a + 1) 8
        generalize Wr.val B (a + 1) 8 = x at *
        have fz := L4.frozen 4
        have cz := L4.at.c4
        clear L0 K3 d3 g3 hg4
        go_wp2
        go_meet
        exact ⟨_, _, _, _, ⟨EX.out, L4.set4 (x : Int), blk_set K4 (by omega) 4 _, TVS.leaf7 (k := 3) (n := 0) (u := (x : Int)) (s := ⟨#[]⟩) (by omega) (by omega) (by omega) (by omega) (by omega) (by omega) (by decide), d4.setO hLg hav 4 _, grown_any g4 4 _ (by omega)⟩⟩
    have n3 := hk
    clear hk
    have b3 : (kz == 3) = false := by rw [beq_eq_false_iff_ne, HK.out]; omega
    by_cases hk : k = 4
    · clear hk0 hk1
      have eX := HX2.out
      rw [if_neg n1, if_neg n2, if_neg n3, if_pos (show k = 4 ∨ k = 5 by omega)] at eX
      have ez : kz = 4 := by rw [HK.out, hk]; rfl
      subst ez
      have ek : ((k : Nat) : Int) = 4 := by rw [hk]; rfl
      rw [ek] at eX
      by_cases cc : n < a + 2
      · rw [if_pos cc] at eX
        have EX := Lib.hid eX
        clear eX HX2
        go_wp2_with fail
        refine (number_no W3 g A n c B (a + 1) p 1 d3 (by omega) 1 rfl).mono ?_
        rintro e w4 ⟨rfl, hg⟩
        go_wp2
        refine ⟨rfl, ?_⟩
        rw [EX.out]
        exact ⟨rfl, grown_tr g3 hg⟩
      · rw [if_neg cc] at eX
        have EX := Lib.hid eX
        clear eX HX2
        go_wp2_with fail
        refine (number_ok W3 g A n c B (a + 1) p 1 d3 (by omega) (by omega) (by omega) 1 rfl).mono ?_
        rintro e w4 ⟨rfl, d4, hg4⟩
        have L4 : Box7 w4 L _ := blk_keep L0 hg4 hLg
        have K4 : Box7 w4 w.heap.size zeroR := blk_keep K3 hg4 (by omega)
        have g4 := grown_tr g3 hg4
        have vb : Wr.val B (a + 1) 1 < 256 ^ 1 := Wr.val_lt hBs (a + 1) 1
        generalize Wr.val B (a + 1) 1 = x at *
        have fz := L4.frozen 1
        have cz := L4.at.c1
        have hw8 : IntKind.i64.wrap (x : Int) = (x : Int) := by rw [IntKind.wrap_i64]; omega
        clear L0 K3 d3 g3 hg4
        go_wp2
        go_meet
        exact ⟨_, _, _, _, ⟨EX.out, L4.set1 (x : Int), blk_set K4 (by omega) 1 _, TVS.leaf7 (k := 4) (n := (x : Int)) (u := 0) (s := ⟨#[]⟩) (by omega) (by omega) (by omega) (by omega) (by omega) (by omega) (by decide), d4.setO hLg hav 1 _, grown_any g4 1 _ (by omega)⟩⟩
    have n4 := hk
    clear hk
    have b4 : (kz == 4) = false := by rw [beq_eq_false_iff_ne, HK.out]; omega
    by_cases hk : k = 5
    · clear hk0 hk1
      have eX := HX2.out
      rw [if_neg n1, if_neg n2, if_neg n3, if_pos (show k = 4 ∨ k = 5 by omega)] at eX
      have ez : kz = 5 := by rw [HK.out, hk]; rfl
      subst ez
      have ek : ((k : Nat) : Int) = 5 := by rw [hk]; rfl
      rw [ek] at eX
      by_cases cc : n < a + 2
      · rw [if_pos cc] at eX
        have EX := Lib.hid eX
        clear eX HX2
        go_wp2_with fail
        refine (number_no W3 g A n c B (a + 1) p 1 d3 (by omega) 1 rfl).mono ?_
        rintro e w4 ⟨rfl, hg⟩
        go_wp2
        refine ⟨rfl, ?_⟩
        rw [EX.out]
        exact ⟨rfl, grown_tr g3 hg⟩
      · rw [if_neg cc] at eX
        have EX := Lib.hid eX
        clear eX HX2
        go_wp2_with fail
        refine (number_ok W3 g A n c B (a + 1) p 1 d3 (by omega) (by omega) (by omega) 1 rfl).mono ?_
        rintro e w4 ⟨rfl, d4, hg4⟩
        have L4 : Box7 w4 L _ := blk_keep L0 hg4 hLg
        have K4 : Box7 w4 w.heap.size zeroR := blk_keep K3 hg4 (by omega)
        have g4 := grown_tr g3 hg4
        have vb : Wr.val B (a + 1) 1 < 256 ^ 1 := Wr.val_lt hBs (a + 1) 1
        generalize Wr.val B (a + 1) 1 = x at *
        have fz := L4.frozen 1
        have cz := L4.at.c1
        have hw8 : IntKind.i64.wrap (x : Int) = (x : Int) := by rw [IntKind.wrap_i64]; omega
        clear L0 K3 d3 g3 hg4
        go_wp2
        go_meet
        exact ⟨_, _, _, _, ⟨EX.out, L4.set1 (x : Int), blk_set K4 (by omega) 1 _, TVS.leaf7 (k := 5) (n := (x : Int)) (u := 0) (s := ⟨#[]⟩) (by omega) (by omega) (by omega) (by omega) (by omega) (by omega) (by decide), d4.setO hLg hav 1 _, grown_any g4 1 _ (by omega)⟩⟩
    have n5 := hk
    clear hk
    have b5 : (kz == 5) = false := by rw [beq_eq_false_iff_ne, HK.out]; omega
    by_cases hk : k = 6
    · clear hk0 hk1
      have eX := HX2.out
      rw [if_neg n1, if_neg n2, if_neg n3, if_neg (show ¬ (k = 4 ∨ k = 5) by omega), if_pos hk] at eX
      have ez : kz = 6 := by rw [HK.out, hk]; rfl
      subst ez
      by_cases cc : n < a + 2
      · rw [if_pos cc] at eX
        have EX := Lib.hid eX
        clear eX HX2
        go_wp2_with fail
        refine (number_no W3 g A n c B (a + 1) p 1 d3 (by omega) 1 rfl).mono ?_
        rintro e w4 ⟨rfl, hg⟩
        go_wp2
        refine ⟨rfl, ?_⟩
        rw [EX.out]
        exact ⟨rfl, grown_tr g3 hg⟩
      · rw [if_neg cc] at eX
        clear HX2
        have EX0 := Lib.hid eX
        clear eX
        go_wp2_with fail
        refine (number_ok W3 g A n c B (a + 1) p 1 d3 (by omega) (by omega) (by omega) 1 rfl).mono ?_
        rintro e w4 ⟨rfl, d4, hg4⟩
        have L4 : Box7 w4 L _ := blk_keep L0 hg4 hLg
        have K4 : Box7 w4 w.heap.size zeroR := blk_keep K3 hg4 (by omega)
        have g4 := grown_tr g3 hg4
        have s4 := hg4.size
        have vb : Wr.val B (a + 1) 1 < 256 := Wr.val_lt hBs (a + 1) 1
        have eX := EX0.out
        clear EX0
        generalize Wr.val B (a + 1) 1 = x at *
        have Q := terms7_of f g A n c B IH.out w4 (a + 2) p x (by omega) d4 (by omega) (x : Int) rfl
        have EX0 := Lib.hid eX
        clear eX
        have hw8 : IntKind.i64.wrap (x : Int) = (x : Int) := by rw [IntKind.wrap_i64]; omega
        go_wp2_with fail
        have eX := EX0.out
        clear EX0
        cases hx : Wr.decs (Wr.dec true B f) x p (a + 2) with
        | none =>
          rw [hx] at Q eX
          have EX := Lib.hid (show X = none from eX)
          clear eX
          (with_reducible refine Q.mono ?_)
          rintro e w5 ⟨rfl, hg⟩
          go_wp2
          refine ⟨rfl, ?_⟩
          rw [EX.out]
          exact ⟨rfl, grown_tr g4 hg⟩
        | some y =>
          obtain ⟨ts, q, a5⟩ := y
          rw [hx] at Q eX
          have EX := Lib.hid (show X = some (.mk 6 0 false [] 0 ⟨#[]⟩ ts, q, a5) from eX)
          clear eX
          (with_reducible refine Q.mono ?_)
          rintro e w5 ⟨Y, my, dy, rfl, tvs, d5, hg5⟩
          have L5 : Box7 w5 L _ := blk_keep L4 hg5 hLg
          have K5 : Box7 w5 w.heap.size zeroR := blk_keep K4 hg5 (by omega)
          have g5 := grown_tr g4 hg5
          have tv5 := (tvs.keep ((Keeps.refl _ w5).setCell (p := ⟨L, 6, none⟩) (by simp only; omega) (.slice Y my dy))).mono (S' := fun b => w.heap.size + 1 ≤ b) (fun b hb => by omega)
          have fz := L5.frozen 6
          have cz := L5.at.c6
          clear L0 K3 d3 g3 L4 K4 g4 hg5 Q tvs
          go_wp2
          go_meet
          exact ⟨_, _, _, _, ⟨EX.out, L5.set6 Y my dy, blk_set K5 (by omega) 6 _, TVS.node tv5 (by simp only; omega) (by simp only; omega) (by simp only; omega) (by simp only; omega) (by simp only; omega) (by simp only; omega) (by decide), d5.setO hLg hav 6 _, grown_any g5 6 _ (by omega)⟩⟩
    have n6 := hk
    clear hk
    have b6 : (kz == 6) = false := by rw [beq_eq_false_iff_ne, HK.out]; omega
    by_cases hk : k = 7
    · clear hk0 hk1
      have eX := HX2.out
      rw [if_neg n1, if_neg n2, if_neg n3, if_neg (show ¬ (k = 4 ∨ k = 5) by omega), if_neg n6, if_pos hk] at eX
      have ez : kz = 7 := by rw [HK.out, hk]; rfl
      subst ez
      have EX := Lib.hid eX
      clear eX HX2
      go_wp2
      go_meet
      exact ⟨_, _, _, _, ⟨EX.out, L0, K3, TVS.leaf7 (k := 7) (n := 0) (u := 0) (s := ⟨#[]⟩) (by omega) (by omega) (by omega) (by omega) (by omega) (by omega) (by decide), d3, g3⟩⟩
    have n7 := hk
    clear hk
    have b7 : (kz == 7) = false := by rw [beq_eq_false_iff_ne, HK.out]; omega
    by_cases hk : k = 8
    · clear hk0 hk1
      have eX := HX2.out
      rw [if_neg n1, if_neg n2, if_neg n3, if_neg (show ¬ (k = 4 ∨ k = 5) by omega), if_neg n6, if_neg n7, if_pos hk] at eX
      have ez : kz = 8 := by rw [HK.out, hk]; rfl
      subst ez
      clear HX2
      have EX0 := Lib.hid eX
      clear eX
      have L4 := L0
      have K4 := K3
      have g4 := g3
      have Q := terms7_of f g A n c B IH.out W3 (a + 1) p 2 (by omega) d3 (by omega) 2 rfl
      go_wp2_with fail
      have eX := EX0.out
      clear EX0
      cases hx : Wr.decs (Wr.dec true B f) 2 p (a + 1) with
      | none =>
        rw [hx] at Q eX
        have EX := Lib.hid (show X = none from eX)
        clear eX
        (with_reducible refine Q.mono ?_)
        rintro e w5 ⟨rfl, hg⟩
        go_wp2
        refine ⟨rfl, ?_⟩
        rw [EX.out]
        exact ⟨rfl, grown_tr g4 hg⟩
      | some y =>
        obtain ⟨ts, q, a5⟩ := y
        rw [hx] at Q eX
        have EX := Lib.hid (show X = some (.mk 8 0 false [] 0 ⟨#[]⟩ ts, q, a5) from eX)
        clear eX
        (with_reducible refine Q.mono ?_)
        rintro e w5 ⟨Y, my, dy, rfl, tvs, d5, hg5⟩
        have L5 : Box7 w5 L _ := blk_keep L4 hg5 hLg
        have K5 : Box7 w5 w.heap.size zeroR := blk_keep K4 hg5 (by omega)
        have g5 := grown_tr g4 hg5
        have tv5 := (tvs.keep ((Keeps.refl _ w5).setCell (p := ⟨L, 6, none⟩) (by simp only; omega) (.slice Y my dy))).mono (S' := fun b => w.heap.size + 1 ≤ b) (fun b hb => by omega)
        have fz := L5.frozen 6
        have cz := L5.at.c6
        clear L0 K3 d3 g3 L4 K4 g4 hg5 Q tvs
        go_wp2
        go_meet
        exact ⟨_, _, _, _, ⟨EX.out, L5.set6 Y my dy, blk_set K5 (by omega) 6 _, TVS.node tv5 (by simp only; omega) (by simp only; omega) (by simp only; omega) (by simp only; omega) (by simp only; omega) (by simp only; omega) (by decide), d5.setO hLg hav 6 _, grown_any g5 6 _ (by omega)⟩⟩
    have n8 := hk
    clear hk
    have b8 : (kz == 8) = false := by rw [beq_eq_false_iff_ne, HK.out]; omega
    by_cases hk : k = 9
    · clear hk0 hk1
      have eX := HX2.out
      rw [if_neg n1, if_neg n2, if_neg n3, if_neg (show ¬ (k = 4 ∨ k = 5) by omega), if_neg n6, if_neg n7, if_neg n8, if_pos hk] at eX
      have ez : kz = 9 := by rw [HK.out, hk]; rfl
      subst ez
      by_cases cc : n < a + 3
      · rw [if_pos (.inl cc)] at eX
        have EX := Lib.hid eX
        clear eX HX2
        go_wp2_with fail
        refine (number_no W3 g A n c B (a + 1) p 2 d3 (by omega) 2 rfl).mono ?_
        rintro e w4 ⟨rfl, hg⟩
        go_wp2
        refine ⟨rfl, ?_⟩
        rw [EX.out]
        exact ⟨rfl, grown_tr g3 hg⟩
      · clear HX2
        have EX0 := Lib.hid eX
        clear eX
        go_wp2_with fail
        refine (number_ok W3 g A n c B (a + 1) p 2 d3 (by omega) (by omega) (by omega) 2 rfl).mono ?_
        rintro e w4 ⟨rfl, d4, hg4⟩
        have L4 : Box7 w4 L _ := blk_keep L0 hg4 hLg
        have K4 : Box7 w4 w.heap.size zeroR := blk_keep K3 hg4 (by omega)
        have g4 := grown_tr g3 hg4
        have vb : Wr.val B (a + 1) 2 < 65536 := Wr.val_lt hBs (a + 1) 2
        have eX := EX0.out
        clear EX0
        generalize Wr.val B (a + 1) 2 = x at *
        have hw8 : IntKind.i64.wrap (x : Int) = (x : Int) := by rw [IntKind.wrap_i64]; omega
        by_cases c2 : n < a + 3 + x
        · rw [if_pos (.inr c2)] at eX
          have EX := Lib.hid eX
          clear eX
          go_wp2_with fail
          refine (take_no w4 g A n c B (a + 1 + 2) p x d4 (by omega)).mono ?_
          rintro e w5 ⟨rfl, hg⟩
          go_wp2
          refine ⟨rfl, ?_⟩
          rw [EX.out]
          exact ⟨rfl, grown_tr g4 hg⟩
        · rw [if_neg (by omega)] at eX
          have EX := Lib.hid eX
          clear eX
          have hlen : (Wr.str ((B.drop (a + 3)).take x)).size = x := by rw [Wr.str_size, List.length_take, List.length_drop, hBL.out]; omega
          go_wp2_with fail
          refine (take_ok w4 g A n c B (a + 1 + 2) p x d4 (by omega) (by omega)).mono ?_
          rintro e w5 ⟨b5, o5, c5, rfl, B5, -, x5, hg5⟩
          have d5 : Ds w5 g A n c B (a + 3 + x) p := d4.next hg5 x5 (by omega)
          have L5 : Box7 w5 L _ := blk_keep L4 hg5 hLg
          have K5 : Box7 w5 w.heap.size zeroR := blk_keep K4 hg5 (by omega)
          have g5 := grown_tr g4 hg5
          have hcv : (convert 31 9 (.slice (some ⟨b5, o5, none⟩) x c5)).run Try.prog w5 = .ok (.string (Wr.str ((B.drop (a + 3)).take x))) w5 := conv_bytes B5
          have fz := L5.frozen 5
          have cz := L5.at.c5
          generalize Wr.str ((B.drop (a + 3)).take x) = sx at *
          clear L0 K3 d3 g3 hg4 L4 K4 g4 d4 hg5 x5 B5
          go_wp2
          go_meet
          exact ⟨_, _, _, _, ⟨EX.out, L5.set5 sx, blk_set K5 (by omega) 5 _, TVS.leaf7 (k := 9) (n := 0) (u := 0) (s := sx) (by omega) (by omega) (by omega) (by omega) (by omega) (by omega) (by omega), d5.setO hLg hav 5 _, grown_any g5 5 _ (by omega)⟩⟩
    have n9 := hk
    clear hk
    have b9 : (kz == 9) = false := by rw [beq_eq_false_iff_ne, HK.out]; omega
    have eX := HX2.out
    rw [if_neg n1, if_neg n2, if_neg n3, if_neg (show ¬ (k = 4 ∨ k = 5) by omega), if_neg n6, if_neg n7, if_neg n8, if_neg n9, if_pos trivial] at eX
    have EX := Lib.hid eX
    clear eX HX2
    go_wp2
    refine ⟨rfl, ?_⟩
    rw [EX.out]
    exact ⟨rfl, g3⟩
  obtain ⟨R, t, q, a', T⟩ := hcut
  have y0 := T.bx.at.c0; have y1 := T.bx.at.c1; have y2 := T.bx.at.c2; have y3 := T.bx.at.c3; have y4 := T.bx.at.c4; have y5 := T.bx.at.c5; have y6 := T.bx.at.c6
  have f0 := T.br.frozen 0; have f1 := T.br.frozen 1; have f2 := T.br.frozen 2; have f3 := T.br.frozen 3; have f4 := T.br.frozen 4; have f5 := T.br.frozen 5; have f6 := T.br.frozen 6
  have z0 := T.br.at.c0; have z1 := T.br.at.c1; have z2 := T.br.at.c2; have z3 := T.br.at.c3; have z4 := T.br.at.c4; have z5 := T.br.at.c5; have z6 := T.br.at.c6
  go_wp2
  have C := (T.br.put R).at
  have G5 : w.grownBy (put7 wc w.heap.size R) (some g) := grown_any (grown_any (grown_any (grown_any (grown_any (grown_any (grown_any T.gr 0 _ (Nat.le_refl _)) 1 _ (Nat.le_refl _)) 2 _ (Nat.le_refl _)) 3 _ (Nat.le_refl _)) 4 _ (Nat.le_refl _)) 5 _ (Nat.le_refl _)) 6 _ (Nat.le_refl _)
  have hwg : w.heap.size ≠ g := by omega
  have hav2 : 0 < n → Av A w.heap.size := h.by'.blk (Nat.le_refl _)
  have D5 : Ds (put7 wc w.heap.size R) g A n c B a' q := ((((((T.ds.setO hwg hav2 0 _).setO hwg hav2 1 _).setO hwg hav2 2 _).setO hwg hav2 3 _).setO hwg hav2 4 _).setO hwg hav2 5 _).setO hwg hav2 6 _
  have T5 := (T.tv.keep ((Keeps.refl _ wc).put7 (g := w.heap.size) (by omega) R)).mono (S' := fun b => w.heap.size ≤ b) (fun b hb => by omega)
  have EX := Lib.hid T.eq
  clear y0 y1 y2 y3 y4 y5 y6 f0 f1 f2 f3 f4 f5 f6 z0 z1 z2 z3 z4 z5 z6 T
  have y0 := C.c0; have y1 := C.c1; have y2 := C.c2; have y3 := C.c3; have y4 := C.c4; have y5 := C.c5; have y6 := C.c6
  clear C
  change bodyPost _ _ _ _ _ (put7 wc w.heap.size R)
  generalize put7 wc w.heap.size R = W5 at *
  refine bodyPost_ret (v := .agg #[.int .i64 R.k, .int .i64 R.n, .bool R.g, .slice R.A R.ln R.lc, .int .u64 R.u, .string R.s, .slice R.B R.m R.d]) (by simp [results, Try.results39, go_sem, y0, y1, y2, y3, y4, y5, y6]) rfl ?_
  rw [EX.out]
  exact ⟨R, rfl, T5, D5, G5⟩

set_option maxRecDepth 100000 in
theorem term7_any : ∀ (f : Nat), f ≤ 1000 → ∀ (g : Nat) (A : Option Addr) (n c : Nat) (B : List Nat) (w : World) (a p : Nat), p ≤ f → Ds w g A n c B a p →
    Calls Try.prog 39 #[.pointer (some ⟨g, 0, none⟩)] w (TrP w g A n c B (Wr.dec true B f p a))
  | 0, _, g, A, n, c, B, w, a, p, hp, h => by
    have e : p = 0 := by omega
    subst e
    have := term7_zero g A n c B w a h
    exact this
  | f + 1, hf, g, A, n, c, B, w, a, p, hp, h => term7_step f g A n c B (fun w a p hp h => term7_any f (by omega) g A n c B w a p hp h) w a p (by omega) hp h
end Go.Proofs.Ytomohdfcggghoaa
