/-
  THE REFERENCE's Reader: Num.
  THE REFERENCE's Reader: what Term keeps while it reads.
  THE REFERENCE's Reader: limbs that are put behind one another.
-/
import Derived.Test.YtomohdfcggghoaaJ10
import Derived.Test.YtomohdfcggghoaaJ16
namespace Go.Proofs.Ytomohdfcggghoaa
open Go.RowKit

/-- The reader's record in block g. -/
def Rx (w : World) (g : Nat) (A : Option Addr) (n c : Nat) (a : Int) (bad : Bool) (p : Int) : Prop := w.heap[g]? = some (.cells #[.slice A n c, .int .i64 a, .bool bad, .int .i64 p] 57 (0, 0))
section
variable {w w' : World} {g n c : Nat} {a p : Int} {bad : Bool} {A : Option Addr}
set_option maxRecDepth 100000 in
theorem Rx.lt (h : Rx w g A n c a bad p) : g < w.heap.size := (Array.getElem?_eq_some_iff.1 h).1
set_option maxRecDepth 100000 in
theorem Rx.c0 (h : Rx w g A n c a bad p) : w.cell? ⟨g, 0, none⟩ = some (.slice A n c) := by rw [cell_of_row w g 0 _ _ (0, 0) h]; rfl
set_option maxRecDepth 100000 in
theorem Rx.c1 (h : Rx w g A n c a bad p) : w.cell? ⟨g, 1, none⟩ = some (.int .i64 a) := by rw [cell_of_row w g 1 _ _ (0, 0) h]; rfl
set_option maxRecDepth 100000 in
theorem Rx.c2 (h : Rx w g A n c a bad p) : w.cell? ⟨g, 2, none⟩ = some (.bool bad) := by rw [cell_of_row w g 2 _ _ (0, 0) h]; rfl
set_option maxRecDepth 100000 in
theorem Rx.c3 (h : Rx w g A n c a bad p) : w.cell? ⟨g, 3, none⟩ = some (.int .i64 p) := by rw [cell_of_row w g 3 _ _ (0, 0) h]; rfl
set_option maxRecDepth 100000 in
theorem Rx.fz (h : Rx w g A n c a bad p) (i : Nat) : w.frozen? ⟨g, i, none⟩ = false := by unfold Rx at h; simp [World.frozen?, h]
set_option maxRecDepth 100000 in
theorem Rx.set1 (h : Rx w g A n c a bad p) (a' : Int) : Rx (w.setCell ⟨g, 1, none⟩ (.int .i64 a')) g A n c a' bad p := by
  unfold Rx at h ⊢
  simp [World.setCell, Array.getElem?_modify, h]
set_option maxRecDepth 100000 in
theorem Rx.set2 (h : Rx w g A n c a bad p) (b' : Bool) : Rx (w.setCell ⟨g, 2, none⟩ (.bool b')) g A n c a b' p := by
  unfold Rx at h ⊢
  simp [World.setCell, Array.getElem?_modify, h]
set_option maxRecDepth 100000 in
theorem Rx.set3 (h : Rx w g A n c a bad p) (p' : Int) : Rx (w.setCell ⟨g, 3, none⟩ (.int .i64 p')) g A n c a bad p' := by
  unfold Rx at h ⊢
  simp [World.setCell, Array.getElem?_modify, h]
end
/-- Where the reader stands. -/
structure Rs (w : World) (g : Nat) (A : Option Addr) (n c : Nat) (B : List Nat) (a : Int) (bad : Bool) (p : Int) : Prop where
  bx : Rx w g A n c a bad p
  by' : By w A n c B
  av : 0 < n → Av A g
  cap : c ≤ maxLen
set_option maxRecDepth 100000 in
theorem Rs.next {w w' : World} {g n c : Nat} {a p a' p' : Int} {bad bad' : Bool} {A : Option Addr} {B : List Nat} (h : Rs w g A n c B a bad p) (k : w.grownBy w' (some g)) (hx : Rx w' g A n c a' bad' p') : Rs w' g A n c B a' bad' p' :=
  ⟨hx, h.by'.keep h.av k, h.av, h.cap⟩
set_option maxRecDepth 100000 in
theorem Rs.alloc {w : World} {g n c : Nat} {a p : Int} {bad : Bool} {A : Option Addr} {B : List Nat} (h : Rs w g A n c B a bad p) (o : Obj) : Rs (w.alloc o) g A n c B a bad p :=
  h.next (World.grownBy_alloc w o _) ((Below.heap_alloc w o g h.bx.lt).trans h.bx)
set_option maxRecDepth 100000 in
theorem Rs.drew {w : World} {g n c : Nat} {a p : Int} {bad : Bool} {A : Option Addr} {B : List Nat} (h : Rs w g A n c B a bad p) : Rs w.drew g A n c B a bad p :=
  h.next (grown_drew (World.grownBy.refl _ _)) h.bx
set_option maxRecDepth 100000 in
theorem Rs.setO {w : World} {g n c : Nat} {a p : Int} {bad : Bool} {A : Option Addr} {B : List Nat} (h : Rs w g A n c B a bad p) {b : Nat} (hb : b ≠ g) (ha : 0 < n → Av A b) (i : Nat) (v : Value) : Rs (w.setCell ⟨b, i, none⟩ v) g A n c B a bad p :=
  ⟨blk_set h.bx (fun e => hb e.symm) i v, h.by'.keep ha (grown_set (World.grownBy.refl _ _)), h.av, h.cap⟩
set_option maxRecDepth 100000 in
theorem Rs.below {w w' : World} {g n c : Nat} {a p : Int} {bad : Bool} {A : Option Addr} {B : List Nat} {base : Nat} (h : Rs w g A n c B a bad p) (hb : Below base w w') (hg : g < base) (hA : 0 < n → ∀ x, A = some x → x.block < base) : Rs w' g A n c B a bad p := by
  refine ⟨(hb.block g hg).trans h.bx, ⟨h.by'.1, h.by'.2.1, h.by'.2.2.1, fun hn => ?_⟩, h.av, h.cap⟩
  obtain ⟨b, o, e, hlt, hc⟩ := h.by'.2.2.2 hn
  have hlt' := hA hn _ e
  exact ⟨b, o, e, Nat.lt_of_lt_of_le hlt hb.size, fun j hj => (hb.cell (p := ⟨b, o + j, none⟩) hlt').trans (hc j hj)⟩

/-- What Num leaves, where there is nothing to read. -/
def RnB (w : World) (g : Nat) (A : Option Addr) (n c : Nat) (B : List Nat) (e : Ending) (w' : World) : Prop :=
  e = .returned (.int .u64 0) ∧ (∃ a p, Rs w' g A n c B a true p) ∧ w.grownBy w' (some g)
/-- What Num leaves, where it reads. -/
def RnP (w : World) (g : Nat) (A : Option Addr) (n c : Nat) (B : List Nat) (a : Nat) (p : Int) (m : Nat) (e : Ending) (w' : World) : Prop :=
  e = .returned (.int .u64 ((Wr.val B a m : Nat) : Int)) ∧ Rs w' g A n c B ((a + m : Nat) : Int) false p ∧ w.grownBy w' (some g)

set_option maxRecDepth 100000 in
set_option maxHeartbeats 2000000 in
theorem rnum_bad (w : World) (g : Nat) (A : Option Addr) (n c : Nat) (B : List Nat) (a p : Int) (bad : Bool) (m : Nat) (h : Rs w g A n c B a bad p) (h8 : m ≤ 8) (hb : bad = true ∨ a < 0 ∨ n < m ∨ (n : Int) - (m : Int) < a) (M : Int) (hM : M = (m : Int)) :
    Calls Try.prog 40 #[.pointer (some ⟨g, 0, none⟩), .int .i64 M] w (RnB w g A n c B) := by
  subst hM
  have hcap := h.cap
  unfold maxLen at hcap
  have hnc := h.by'.2.1
  have y0 := h.bx.c0
  have y1 := h.bx.c1
  have y2 := h.bx.c2
  have f2 := h.bx.fz 2
  go_enter Try.func40, Try.ntmps40
  cases bad with
  | true =>
    go_wp2
    go_quiet (fail)
    go_wp2
    go_ret
    have gq : w.grownBy ((w.drewN nq).setCell ⟨g, 2, none⟩ (.bool true)) (some g) := grown_set (World.grownBy.refl _ _ |> fun k => ⟨k.os, k.tape, k.output, k.size, k.block⟩)
    exact ⟨rfl, ⟨_, _, h.next gq (Rx.set2 (w := w.drewN nq) h.bx true)⟩, gq⟩
  | false =>
    by_cases d1 : a < 0
    · have e1 : decide (a < 0) = true := decide_eq_true d1
      go_wp2
      go_quiet (fail)
      go_wp2
      go_ret
      have gq : w.grownBy ((w.drewN nq).setCell ⟨g, 2, none⟩ (.bool true)) (some g) := grown_set (World.grownBy.refl _ _ |> fun k => ⟨k.os, k.tape, k.output, k.size, k.block⟩)
      exact ⟨rfl, ⟨_, _, h.next gq (Rx.set2 (w := w.drewN nq) h.bx true)⟩, gq⟩
    have e1 : decide (a < 0) = false := decide_eq_false d1
    by_cases d2 : n < m
    · have e2 : decide ((n : Int) < (m : Int)) = true := by rw [decide_eq_true_iff]; omega
      go_wp2
      go_quiet (fail)
      go_wp2
      go_ret
      have gq : w.grownBy ((w.drewN nq).setCell ⟨g, 2, none⟩ (.bool true)) (some g) := grown_set (World.grownBy.refl _ _ |> fun k => ⟨k.os, k.tape, k.output, k.size, k.block⟩)
      exact ⟨rfl, ⟨_, _, h.next gq (Rx.set2 (w := w.drewN nq) h.bx true)⟩, gq⟩
    have e2 : decide ((n : Int) < (m : Int)) = false := by rw [decide_eq_false_iff_not]; omega
    have d3 : (n : Int) - (m : Int) < a := by
      rcases hb with hb | hb | hb | hb
      · cases hb
      · exact absurd hb d1
      · exact absurd hb d2
      · exact hb
    have e3 : decide ((n : Int) - (m : Int) < a) = true := decide_eq_true d3
    go_wp2
    go_quiet (fail)
    go_wp2
    go_ret
    have gq : w.grownBy ((w.drewN nq).setCell ⟨g, 2, none⟩ (.bool true)) (some g) := grown_set (World.grownBy.refl _ _ |> fun k => ⟨k.os, k.tape, k.output, k.size, k.block⟩)
    exact ⟨rfl, ⟨_, _, h.next gq (Rx.set2 (w := w.drewN nq) h.bx true)⟩, gq⟩

set_option maxRecDepth 100000 in
set_option maxHeartbeats 2000000 in
theorem rnum_ok (w : World) (g : Nat) (A : Option Addr) (n c : Nat) (B : List Nat) (a : Nat) (p : Int) (m : Nat) (h : Rs w g A n c B (a : Int) false p) (h1 : 1 ≤ m) (h8 : m ≤ 8) (hm : a + m ≤ n) (M : Int) (hM : M = (m : Int)) :
    Calls Try.prog 40 #[.pointer (some ⟨g, 0, none⟩), .int .i64 M] w (RnP w g A n c B a p m) := by
  subst hM
  have hcap := h.cap
  unfold maxLen at hcap
  have hnc := h.by'.2.1
  have y0 := h.bx.c0
  have y1 := h.bx.c1
  have y2 := h.bx.c2
  obtain ⟨az, haz⟩ : ∃ az : Int, az = (a : Int) := ⟨_, rfl⟩
  have e1 : decide (az < 0) = false := by rw [decide_eq_false_iff_not]; omega
  have e2 : decide ((n : Int) < (m : Int)) = false := by rw [decide_eq_false_iff_not]; omega
  have e2' : decide (n < m) = false := by rw [decide_eq_false_iff_not]; omega
  have e3 : decide ((n : Int) - (m : Int) < az) = false := by rw [decide_eq_false_iff_not]; omega
  rw [← haz] at y1
  have HAZ := Lib.hid haz
  clear haz
  go_enter Try.func40, Try.ntmps40
  go_wp2
  go_quiet (fail)
  go_wp2
  have hW : Rs (w.drewN nq) g A n c B (a : Int) false p := ⟨h.bx, h.by', h.av, h.cap⟩
  have gW : w.grownBy (w.drewN nq) (some g) := World.grownBy.refl _ _ |> fun k => ⟨k.os, k.tape, k.output, k.size, k.block⟩
  generalize w.drewN nq = W at *
  have hbs := hW.by'.2.2.1
  have hbl := Lib.hid hW.by'.1
  obtain ⟨b, o, e, hlt, hcell⟩ := hW.by'.2.2.2 (by omega)
  subst e
  have HV := Lib.hid (show Wr.val B a m = Wr.beq ((B.drop a).take m) from rfl)
  clear y0 y1 y2 e1 e2 e2' e3 h
  go_loopw [5, 6] (fun x i w' => ∃ (j y q : Nat), j ≤ m ∧ i = .int .i64 (j : Int) ∧ x = .int .u64 (y : Int) ∧ w' = W.drewN q ∧ Hid (y = Wr.beq (((B.drop a).take m).take j))) (fun _ i _ => m - (intOf i).toNat)
  case atStart => exact ⟨0, 0, 0, Nat.zero_le _, rfl, rfl, rfl, rfl⟩
  case round =>
    obtain ⟨j, y, q, hj, rfl, rfl, rfl, hy⟩ := hrel
    by_cases hjm : j < m
    · have hd1 : decide ((j : Int) < (m : Int)) = true := by rw [decide_eq_true_iff]; omega
      have hz := hcell (a + j) (by omega)
      have hlt8 : Lm.lg B (a + j) < 256 := by
        have : a + j < B.length := by have := hbl.out; omega
        simp only [Lm.lg, List.getD_eq_getElem?_getD, List.getElem?_eq_getElem this, Option.getD_some]
        exact hbs _ (List.getElem_mem this)
      have hlen : ((B.drop a).take m).length = m := by rw [List.length_take, List.length_drop]; have := hbl.out; omega
      have hy7 : y < 256 ^ 7 := by
        have h1 := Wr.beq_lt (Wr.small_take (Wr.small_take (Wr.small_drop hbs a) m) j)
        have h2 : 256 ^ (((B.drop a).take m).take j).length ≤ 256 ^ 7 := Nat.pow_le_pow_right (by omega) (by rw [List.length_take]; omega)
        have := hy.out
        omega
      have hst := Lib.hid (show Wr.beq (((B.drop a).take m).take (j + 1)) = y * 256 + Lm.lg B (a + j) by
        have : j < ((B.drop a).take m).length := by omega
        rw [List.take_add_one, List.getElem?_eq_getElem this, Option.toList_some, Wr.beq_snoc, hy.out]
        have h3 : a + j < B.length := by have := hbl.out; omega
        simp [Lm.lg, h3])
      have hor := Lib.hid (or_digit hy7 hlt8)
      have y0 := hW.bx.c0
      have y1 := hW.bx.c1
      obtain ⟨u, hu⟩ : ∃ u, u = a + j := ⟨_, rfl⟩
      rw [← hu] at hz hlt8 hst hor
      have hwr : IntKind.i64.wrap ((a : Int) + (j : Int)) = (u : Int) := by rw [IntKind.wrap_i64]; omega
      have i1 : (u : Int) < (n : Int) := by omega
      have i4 : u < n := by omega
      have HU := Lib.hid hu
      clear hlen hu
      go_wp2
      go_quiet (fail)
      go_wp2
      exact ⟨⟨j + 1, y * 256 + Lm.lg B u, _, by omega, by go_num, by rw [hor.out], rfl, hst.out.symm⟩, by simp [intOf]; omega⟩
    · have hd1 : decide ((j : Int) < (m : Int)) = false := by rw [decide_eq_false_iff_not]; omega
      have e : j = m := by omega
      subst e
      have e2 : ((B.drop a).take j).take j = (B.drop a).take j := List.take_of_length_le (List.length_take_le _ _)
      have e3 := hy.out
      rw [e2, ← HV.out] at e3
      subst e3
      have y1 : (W.drewN q).cell? ⟨g, 1, none⟩ = some (.int .i64 (a : Int)) := hW.bx.c1
      have f1 : (W.drewN q).frozen? ⟨g, 1, none⟩ = false := hW.bx.fz 1
      go_wp2
      go_ret
      have gq : w.grownBy ((W.drewN q).setCell ⟨g, 1, none⟩ (.int .i64 ((a : Int) + (j : Int)))) (some g) := grown_set ⟨gW.os, gW.tape, gW.output, gW.size, gW.block⟩
      have gq' : W.grownBy ((W.drewN q).setCell ⟨g, 1, none⟩ (.int .i64 ((a : Int) + (j : Int)))) (some g) := grown_set (World.grownBy.refl _ _ |> fun k => ⟨k.os, k.tape, k.output, k.size, k.block⟩)
      refine ⟨rfl, ?_, gq⟩
      rw [Int.natCast_add]
      exact hW.next gq' (Rx.set1 (w := W.drewN q) hW.bx _)
end Go.Proofs.Ytomohdfcggghoaa

namespace Go.Proofs.Ytomohdfcggghoaa
open Go.RowKit

set_option maxRecDepth 100000 in
/-- A record that stands for nothing is put behind a row: what that leaves alone. -/
theorem Row7.junk {w : World} {base m d : Nat} {B : Option Addr} {ts : List Tm} (h : Row7 w base B m d ts) (r : TR) (a : Addr) (c : Nat) (ha : ∀ j u, r.cells[j]? = some u → w.cell? (a.add j) = some u) (hm : m ≤ 100000) (hbase : base ≤ w.heap.size) (ty : TypeId) :
    ∃ B' d' w', (Builtin.append_ #[26, 26] ty #[.slice B m d, .slice (some a) 1 c]).run Try.prog w = .ok (.slice B' (m + 1) d') w' ∧ Below base w w' := by
  obtain ⟨i, hi, hz, hs, hb⟩ := info_term'
  obtain ⟨V, h1, h2⟩ := h.ex
  obtain ⟨v', w', hrun, ho, hg, hn, hloc⟩ := run_append_own_at (P := Try.prog) w base 26 ty 28 i _ 7 96 und_terms hi hz hs hb rfl (by decide) (.slice B m d) m (rcells V m) h1 a 1 c r.cells (by simp [TR.cells]) ha cells_one (by unfold maxLen; omega) (by omega) hbase
  have hform : ∃ B' d', v' = .slice B' (m + 1) d' := by
    rcases ho.2 with ⟨_, h0⟩ | ⟨g, cap, cur, rfl, _⟩
    · omega
    · exact ⟨_, _, rfl⟩
  obtain ⟨B', d', rfl⟩ := hform
  exact ⟨B', d', w', hrun, (Below.refl base w).grown hg hbase (fun k hk => (World.ownsRow.lt h1 k hk).1)⟩

/-- What reading a term leaves. -/
def RtP (w : World) (g : Nat) (A : Option Addr) (n c : Nat) (B : List Nat) (x : Option (Tm × Nat × Nat)) (e : Ending) (w' : World) : Prop :=
  match x with
  | none => ∃ R : TR, e = .returned (.agg #[.int .i64 R.k, .int .i64 R.n, .bool R.g, .slice R.A R.ln R.lc, .int .u64 R.u, .string R.s, .slice R.B R.m R.d]) ∧ (∃ a q, Rs w' g A n c B a true q) ∧ w.grownBy w' (some g)
  | some (t, q, a) => ∃ R : TR, e = .returned (.agg #[.int .i64 R.k, .int .i64 R.n, .bool R.g, .slice R.A R.ln R.lc, .int .u64 R.u, .string R.s, .slice R.B R.m R.d]) ∧ TVS (fun b => w.heap.size ≤ b) w' R t ∧ Rs w' g A n c B ((a : Nat) : Int) false ((q : Nat) : Int) ∧ w.grownBy w' (some g)
/-- What a term is, from any place on. -/
def Wr.decZ (B : List Nat) (f p : Nat) (z : Int) : Option (Tm × Nat × Nat) := if z < 0 then none else Wr.dec false B f p z.toNat

/-- Where Term stands behind its switch, with no arguments to come. -/
structure Ta (w : World) (g L : Nat) (A : Option Addr) (n c : Nat) (B : List Nat) (x : Option (Tm × Nat × Nat)) (wx : World) (R : TR) : Prop where
  bx : Box7 wx L R
  br : Box7 wx w.heap.size zeroR
  gr : w.grownBy wx (some g)
  rs : (x = none ∧ ∃ a q, Rs wx g A n c B a true q) ∨ ∃ t q a, x = some (t, q, a) ∧ TVS (fun b => w.heap.size + 1 ≤ b) wx R t ∧ Rs wx g A n c B ((a : Nat) : Int) false ((q : Nat) : Int)
/-- And with so many. -/
structure Tn (w : World) (g L : Nat) (A : Option Addr) (n c : Nat) (B : List Nat) (x : Option (Tm × Nat × Nat)) (f : Nat) (kz : Int) (m p a : Nat) (wx : World) : Prop where
  bx : Box7 wx L ⟨kz, 0, false, none, 0, 0, 0, ⟨#[]⟩, none, 0, 0⟩
  br : Box7 wx w.heap.size zeroR
  gr : w.grownBy wx (some g)
  rs : Rs wx g A n c B ((a : Nat) : Int) false ((p : Nat) : Int)
  eq : x = (Wr.decs (Wr.dec false B f) m p a).map fun y => (.mk kz 0 false [] 0 ⟨#[]⟩ y.1, y.2)
  le : m ≤ 255 ∧ a ≤ n ∧ p ≤ f ∧ (kz = 6 ∨ kz = 8)

set_option maxRecDepth 100000 in
theorem Rs.put7 {w : World} {g n c : Nat} {a p : Int} {bad : Bool} {A : Option Addr} {B : List Nat} (h : Rs w g A n c B a bad p) {b : Nat} (hb : b ≠ g) (ha : 0 < n → Av A b) (R : TR) : Rs (put7 w b R) g A n c B a bad p :=
  ((((((h.setO hb ha 0 _).setO hb ha 1 _).setO hb ha 2 _).setO hb ha 3 _).setO hb ha 4 _).setO hb ha 5 _).setO hb ha 6 _
set_option maxRecDepth 100000 in
theorem grown_put7 {w w' : World} {g b : Nat} (h : w.grownBy w' (some g)) (hb : w.heap.size ≤ b) (R : TR) : w.grownBy (put7 w' b R) (some g) :=
  grown_any (grown_any (grown_any (grown_any (grown_any (grown_any (grown_any h 0 _ hb) 1 _ hb) 2 _ hb) 3 _ hb) 4 _ hb) 5 _ hb) 6 _ hb
set_option maxRecDepth 100000 in
theorem Ta.fin {w : World} {g L : Nat} {A : Option Addr} {n c : Nat} {B : List Nat} {x : Option (Tm × Nat × Nat)} {wx : World} {R : TR} (T : Ta w g L A n c B x wx R) (hg : g < w.heap.size) (hav : 0 < n → Av A w.heap.size) :
    RtP w g A n c B x (.returned (.agg #[.int .i64 R.k, .int .i64 R.n, .bool R.g, .slice R.A R.ln R.lc, .int .u64 R.u, .string R.s, .slice R.B R.m R.d])) (put7 wx w.heap.size R) := by
  have G := grown_put7 T.gr (Nat.le_refl _) R
  have hwg : w.heap.size ≠ g := by omega
  rcases T.rs with ⟨e, a, q, hr⟩ | ⟨t, q, a, e, tv, hr⟩
  · rw [e]
    exact ⟨R, rfl, ⟨a, q, hr.put7 hwg hav R⟩, G⟩
  · rw [e]
    exact ⟨R, rfl, (tv.keep ((Keeps.refl _ wx).put7 (g := w.heap.size) (by omega) R)).mono (S' := fun b => w.heap.size ≤ b) (fun b hb => by omega), hr.put7 hwg hav R, G⟩

/-- The loop over the arguments, as long as all is well. -/
structure Lo (w : World) (g L : Nat) (A : Option Addr) (n c : Nat) (B : List Nat) (f : Nat) (kz : Int) (p a : Nat) (wx : World) (j : Nat) (X : Option Addr) (d : Nat) (ts : List Tm) (q a' : Nat) : Prop where
  row : Row7 wx (L + 1) X j d ts
  bx : Box7 wx L ⟨kz, 0, false, none, 0, 0, 0, ⟨#[]⟩, X, j, d⟩
  br : Box7 wx w.heap.size zeroR
  gr : w.grownBy wx (some g)
  rs : Rs wx g A n c B ((a' : Nat) : Int) false ((q : Nat) : Int)
  eq : Wr.decs (Wr.dec false B f) j p a = some (ts, q, a')
  le : q ≤ f ∧ a' ≤ n
/-- And once it is not. -/
structure Lb (w : World) (g L : Nat) (A : Option Addr) (n c : Nat) (B : List Nat) (wx : World) : Prop where
  bx : ∃ R, Box7 wx L R
  br : Box7 wx w.heap.size zeroR
  gr : w.grownBy wx (some g)
  rs : ∃ a q, Rs wx g A n c B a true q
section
variable {w : World} {g L : Nat} {A : Option Addr} {n c : Nat} {B : List Nat} {f : Nat} {kz : Int} {p a : Nat} {wx v : World} {j : Nat} {X : Option Addr} {d : Nat} {ts : List Tm} {q a' : Nat}
set_option maxRecDepth 100000 in
theorem Lo.drew (h : Lo w g L A n c B f kz p a wx j X d ts q a') : Lo w g L A n c B f kz p a wx.drew j X d ts q a' :=
  ⟨h.row.below (Below.refl _ _).drew, h.bx.drew, h.br.drew, grown_drew h.gr, h.rs.drew, h.eq, h.le⟩
set_option maxRecDepth 100000 in
theorem grown_below {w w1 w2 : World} {g base : Nat} (h : w.grownBy w1 (some g)) (hb : Below base w1 w2) (hl : w.heap.size ≤ base) : w.grownBy w2 (some g) :=
  ⟨hb.os.trans h.os, hb.tape.trans h.tape, hb.output.trans h.output, Nat.le_trans h.size hb.size, fun k hk hne => (hb.block k (by omega)).trans (h.block k hk hne)⟩
set_option maxRecDepth 100000 in
theorem Lo.one (h : Lo w g L A n c B f kz p a wx j X d ts q a') (hg : g < w.heap.size) (hL : w.heap.size + 1 ≤ L) (hA : 0 < n → ∀ x, A = some x → x.block < w.heap.size) (hj : j ≤ 255)
    {R : TR} {t : Tm} {q2 a2 : Nat} (tv : TVS (fun b => wx.heap.size ≤ b) v R t) (rs : Rs v g A n c B ((a2 : Nat) : Int) false ((q2 : Nat) : Int)) (gv : wx.grownBy v (some g)) (hd : Wr.dec false B f q a' = some (t, q2, a2)) (hq : q2 ≤ f) (ha : a2 ≤ n) :
    ∃ B2 d2 w3, (Builtin.append_ #[26, 26] 26 #[.slice X j d, .slice (some ⟨v.heap.size, 0, none⟩) 1 1]).run Try.prog (v.alloc (.cells #[.int .i64 R.k, .int .i64 R.n, .bool R.g, .slice R.A R.ln R.lc, .int .u64 R.u, .string R.s, .slice R.B R.m R.d] 28)) = .ok (.slice B2 (j + 1) d2) w3 ∧
      Box7 w3 L ⟨kz, 0, false, none, 0, 0, 0, ⟨#[]⟩, X, j, d⟩ ∧ Lo w g L A n c B f kz p a (w3.setCell ⟨L, 6, none⟩ (.slice B2 (j + 1) d2)) (j + 1) B2 d2 (ts ++ [t]) q2 a2 := by
  have hLx := h.bx.lt
  have row2 := (h.row.grown gv (by omega)).below ((Below.refl _ _).alloc (Nat.le_refl _) (.cells #[.int .i64 R.k, .int .i64 R.n, .bool R.g, .slice R.A R.ln R.lc, .int .u64 R.u, .string R.s, .slice R.B R.m R.d] 28))
  have hlt2 : ∀ k, (Value.slice X j d).ownBlock = some k → k < wx.heap.size := by
    obtain ⟨V, h1, _⟩ := h.row.ex
    exact fun k hk => (h1.lt k hk).2
  have ht2 : TVS (fun b => L + 1 ≤ b ∧ (Value.slice X j d).ownBlock ≠ some b) (v.alloc (.cells #[.int .i64 R.k, .int .i64 R.n, .bool R.g, .slice R.A R.ln R.lc, .int .u64 R.u, .string R.s, .slice R.B R.m R.d] 28)) R t :=
    (tv.keep (((Keeps.refl _ _).alloc _))).mono fun b h => ⟨by omega, fun e => absurd (hlt2 b e) (by omega)⟩
  have hv := gv.size
  obtain ⟨B2, d2, w3, hrun, row3, hbr, _⟩ := row2.push ht2 ⟨v.heap.size, 0, none⟩ 1 (fun k u hu => by
    rw [add_none, World.cell?_alloc_at _ _ _ _ rfl, Nat.zero_add]
    simpa [TR.cells] using hu) (by omega) (by simp; omega) 26
  have ga := World.grownBy_alloc v (.cells #[.int .i64 R.k, .int .i64 R.n, .bool R.g, .slice R.A R.ln R.lc, .int .u64 R.u, .string R.s, .slice R.B R.m R.d] 28) (some g)
  have g1 := grown_tr (grown_tr h.gr gv) ga
  have g3 := grown_below g1 hbr (by omega)
  have b1 : Box7 (v.alloc (.cells #[.int .i64 R.k, .int .i64 R.n, .bool R.g, .slice R.A R.ln R.lc, .int .u64 R.u, .string R.s, .slice R.B R.m R.d] 28)) L _ := blk_keep (blk_keep h.bx gv (by omega)) ga (by omega)
  have k1 : Box7 (v.alloc (.cells #[.int .i64 R.k, .int .i64 R.n, .bool R.g, .slice R.A R.ln R.lc, .int .u64 R.u, .string R.s, .slice R.B R.m R.d] 28)) w.heap.size zeroR := blk_keep (blk_keep h.br gv (by omega)) ga (by omega)
  have b3 : Box7 w3 L ⟨kz, 0, false, none, 0, 0, 0, ⟨#[]⟩, X, j, d⟩ := (hbr.block L (by omega)).trans b1
  have k3 : Box7 w3 w.heap.size zeroR := (hbr.block w.heap.size (by omega)).trans k1
  have r3 := (rs.alloc (.cells #[.int .i64 R.k, .int .i64 R.n, .bool R.g, .slice R.A R.ln R.lc, .int .u64 R.u, .string R.s, .slice R.B R.m R.d] 28)).below hbr (by omega) (fun hn x e => by have := hA hn x e; omega)
  have hav : 0 < n → Av A L := fun hn e => by
    cases A with
    | none => cases e
    | some x => have := hA hn x rfl; simp at e; omega
  refine ⟨B2, d2, w3, hrun, b3, ⟨row3.grown (grown_set (World.grownBy.refl _ _)) (by omega), b3.set6 B2 (j + 1) d2, blk_set k3 (by omega) 6 _, grown_any g3 6 _ (by omega), r3.setO (by omega) hav 6 _, ?_, hq, ha⟩⟩
  rw [Wr.decs_step h.eq, hd]
  rfl
set_option maxRecDepth 100000 in
theorem Lo.bad (h : Lo w g L A n c B f kz p a wx j X d ts q a') (hg : g < w.heap.size) (hL : w.heap.size + 1 ≤ L) (hA : 0 < n → ∀ x, A = some x → x.block < w.heap.size) (hj : j ≤ 255)
    {R : TR} (rs : ∃ a q, Rs v g A n c B a true q) (gv : wx.grownBy v (some g)) :
    ∃ B2 d2 w3, (Builtin.append_ #[26, 26] 26 #[.slice X j d, .slice (some ⟨v.heap.size, 0, none⟩) 1 1]).run Try.prog (v.alloc (.cells #[.int .i64 R.k, .int .i64 R.n, .bool R.g, .slice R.A R.ln R.lc, .int .u64 R.u, .string R.s, .slice R.B R.m R.d] 28)) = .ok (.slice B2 (j + 1) d2) w3 ∧
      Box7 w3 L ⟨kz, 0, false, none, 0, 0, 0, ⟨#[]⟩, X, j, d⟩ ∧ Lb w g L A n c B (w3.setCell ⟨L, 6, none⟩ (.slice B2 (j + 1) d2)) := by
  have hLx := h.bx.lt
  have row2 := (h.row.grown gv (by omega)).below ((Below.refl _ _).alloc (Nat.le_refl _) (.cells #[.int .i64 R.k, .int .i64 R.n, .bool R.g, .slice R.A R.ln R.lc, .int .u64 R.u, .string R.s, .slice R.B R.m R.d] 28))
  have hv := gv.size
  obtain ⟨B2, d2, w3, hrun, hbr⟩ := row2.junk R ⟨v.heap.size, 0, none⟩ 1 (fun k u hu => by
    rw [add_none, World.cell?_alloc_at _ _ _ _ rfl, Nat.zero_add]
    simpa [TR.cells] using hu) (by omega) (by simp; omega) 26
  have ga := World.grownBy_alloc v (.cells #[.int .i64 R.k, .int .i64 R.n, .bool R.g, .slice R.A R.ln R.lc, .int .u64 R.u, .string R.s, .slice R.B R.m R.d] 28) (some g)
  have g1 := grown_tr (grown_tr h.gr gv) ga
  have g3 := grown_below g1 hbr (by omega)
  have b1 : Box7 (v.alloc (.cells #[.int .i64 R.k, .int .i64 R.n, .bool R.g, .slice R.A R.ln R.lc, .int .u64 R.u, .string R.s, .slice R.B R.m R.d] 28)) L _ := blk_keep (blk_keep h.bx gv (by omega)) ga (by omega)
  have k1 : Box7 (v.alloc (.cells #[.int .i64 R.k, .int .i64 R.n, .bool R.g, .slice R.A R.ln R.lc, .int .u64 R.u, .string R.s, .slice R.B R.m R.d] 28)) w.heap.size zeroR := blk_keep (blk_keep h.br gv (by omega)) ga (by omega)
  have b3 : Box7 w3 L ⟨kz, 0, false, none, 0, 0, 0, ⟨#[]⟩, X, j, d⟩ := (hbr.block L (by omega)).trans b1
  have k3 : Box7 w3 w.heap.size zeroR := (hbr.block w.heap.size (by omega)).trans k1
  obtain ⟨ab, qb, rs⟩ := rs
  have r3 := (rs.alloc (.cells #[.int .i64 R.k, .int .i64 R.n, .bool R.g, .slice R.A R.ln R.lc, .int .u64 R.u, .string R.s, .slice R.B R.m R.d] 28)).below hbr (by omega) (fun hn x e => by have := hA hn x e; omega)
  have hav : 0 < n → Av A L := fun hn e => by
    cases A with
    | none => cases e
    | some x => have := hA hn x rfl; simp at e; omega
  exact ⟨B2, d2, w3, hrun, b3, ⟨⟨_, b3.set6 B2 (j + 1) d2⟩, blk_set k3 (by omega) 6 _, grown_any g3 6 _ (by omega), ab, qb, r3.setO (by omega) hav 6 _⟩⟩
end
end Go.Proofs.Ytomohdfcggghoaa

namespace Go.Proofs.Ytomohdfcggghoaa
open Go.RowKit

set_option maxRecDepth 100000 in
theorem Own.grown {w w' : World} {base n c g : Nat} {A : Option Addr} {l : List Nat} (h : Own w base A n c l) (k : w.grownBy w' (some g)) (hg : g < base) : Own w' base A n c l := by
  refine ⟨h.1, h.2.1, h.2.2.1, ?_⟩
  rcases h.2.2.2 with h0 | ⟨b, cap, cur, hv, hbg, hh, rest⟩
  · exact .inl h0
  · exact .inr ⟨b, cap, cur, hv, hbg, blk_keep hh k (by omega), rest⟩
/-- The loop over the limbs. -/
structure Ll (w : World) (g L : Nat) (sg : Bool) (wx : World) (j : Nat) (X : Option Addr) (d : Nat) (ls : List Nat) : Prop where
  ow : Own wx (L + 1) X j d ls
  bx : Box7 wx L ⟨2, 0, sg, X, j, d, 0, ⟨#[]⟩, none, 0, 0⟩
  br : Box7 wx w.heap.size zeroR
  gr : w.grownBy wx (some g)
section
variable {w : World} {g L : Nat} {sg : Bool} {wx v : World} {j : Nat} {X : Option Addr} {d : Nat} {ls : List Nat}
set_option maxRecDepth 100000 in
theorem Ll.drew (h : Ll w g L sg wx j X d ls) : Ll w g L sg wx.drew j X d ls := ⟨h.ow.below (Below.refl _ _).drew, h.bx.drew, h.br.drew, grown_drew h.gr⟩
set_option maxRecDepth 100000 in
theorem Ll.one {A : Option Addr} {n c : Nat} {B : List Nat} (h : Ll w g L sg wx j X d ls) (hg : g < w.heap.size) (hL : w.heap.size + 1 ≤ L) (hA : 0 < n → ∀ x, A = some x → x.block < w.heap.size) (hj : j ≤ 255)
    {x : Nat} (hx : x < 4294967296) (gv : wx.grownBy v (some g)) :
    ∃ B2 d2 w3, (Builtin.append_ #[22, 22] 22 #[.slice X j d, .slice (some ⟨v.heap.size, 0, none⟩) 1 1]).run Try.prog (v.alloc (.cells #[.int .u32 (x : Int)] 65)) = .ok (.slice B2 (j + 1) d2) w3 ∧
      Box7 w3 L ⟨2, 0, sg, X, j, d, 0, ⟨#[]⟩, none, 0, 0⟩ ∧ Ll w g L sg (w3.setCell ⟨L, 3, none⟩ (.slice B2 (j + 1) d2)) (j + 1) B2 d2 (ls ++ [x]) ∧
      ∀ a bad p, Rs v g A n c B a bad p → Rs (w3.setCell ⟨L, 3, none⟩ (.slice B2 (j + 1) d2)) g A n c B a bad p := by
  have hLx := h.bx.lt
  have hv := gv.size
  have al := (Below.refl v.heap.size v).alloc (Nat.le_refl _) (.cells #[.int .u32 (x : Int)] 65)
  obtain ⟨B2, d2, w3, hrun, hO, hbr⟩ := append_lim (v.alloc (.cells #[.int .u32 (x : Int)] 65)) (L + 1) X j d ls ((h.ow.grown gv (by omega)).below al) (some ⟨v.heap.size, 0, none⟩) 1 1 [x] (Lim.new v [x] (by intro y hy; simp at hy; omega)) (by omega) (by simp; omega) 22
  have ga := World.grownBy_alloc v (.cells #[.int .u32 (x : Int)] 65) (some g)
  have g1 := grown_tr (grown_tr h.gr gv) ga
  have g3 := grown_below g1 hbr (by omega)
  have b1 : Box7 (v.alloc (.cells #[.int .u32 (x : Int)] 65)) L _ := blk_keep (blk_keep h.bx gv (by omega)) ga (by omega)
  have k1 : Box7 (v.alloc (.cells #[.int .u32 (x : Int)] 65)) w.heap.size zeroR := blk_keep (blk_keep h.br gv (by omega)) ga (by omega)
  have b3 : Box7 w3 L ⟨2, 0, sg, X, j, d, 0, ⟨#[]⟩, none, 0, 0⟩ := (hbr.block L (by omega)).trans b1
  have k3 : Box7 w3 w.heap.size zeroR := (hbr.block w.heap.size (by omega)).trans k1
  have hav : 0 < n → Av A L := fun hn e => by
    cases A with
    | none => cases e
    | some x => have := hA hn x rfl; simp at e; omega
  refine ⟨B2, d2, w3, hrun, b3, ⟨hO.grown (grown_set (World.grownBy.refl _ _)) (by omega), b3.set3 B2 (j + 1) d2, blk_set k3 (by omega) 3 _, grown_any g3 3 _ (by omega)⟩, fun a bad p rs => ?_⟩
  exact ((rs.alloc _).below hbr (by omega) (fun hn x e => by have := hA hn x e; omega)).setO (by omega) hav 3 _
end
set_option maxRecDepth 100000 in
theorem limbsAt_snoc (B : List Nat) (a m j : Nat) (h : j < m) : (Wr.limbsAt B a m).take (j + 1) = (Wr.limbsAt B a m).take j ++ [Wr.val B (a + 4 * j) 4] := by
  rw [List.take_add_one]
  simp [Wr.limbsAt, h]
end Go.Proofs.Ytomohdfcggghoaa
