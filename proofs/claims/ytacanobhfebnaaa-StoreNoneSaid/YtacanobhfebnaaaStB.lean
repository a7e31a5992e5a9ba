/-
  PACKAGE store: the free slots in memory; the methods of numbers.
-/
import Derived.Test.YtacanobhfebnaaaStA
import Derived.Test.YtacanobhfebnaaaProg
import Derived.WalkKit
import Derived.WalkSpells
import Derived.Lib.Hide
import Derived.Below
import Derived.BigRegion
import Derived.BigQuiet
import Derived.IntWalk
import Derived.Maps.AppendAt
import Derived.Deep.QuietTactic
import Derived.Deep.Draws
import Derived.WalkSmall
import Derived.Deep.RegionLaw
namespace Go.Proofs.Ytacanobhfebnaaa
open Go.RowKit
open St

/-- What has turned lies in K, or is new. -/
structure Chg (K : Nat → Prop) (a b : World) : Prop where
  os : b.os = a.os
  tape : b.tape = a.tape
  output : b.output = a.output
  size : a.heap.size ≤ b.heap.size
  block : ∀ k, k < a.heap.size → ¬ K k → b.heap[k]? = a.heap[k]?
namespace Chg
variable {K K' : Nat → Prop} {a b c : World}
set_option maxRecDepth 100000 in
theorem refl (K : Nat → Prop) (a : World) : Chg K a a := ⟨rfl, rfl, rfl, Nat.le_refl _, fun _ _ _ => rfl⟩
set_option maxRecDepth 100000 in
theorem trans (h : Chg K a b) (g : Chg K' b c) (hk : ∀ k, k < a.heap.size → K' k → K k) : Chg K a c :=
  ⟨g.os.trans h.os, g.tape.trans h.tape, g.output.trans h.output, Nat.le_trans h.size g.size, fun k hk1 hk2 => (g.block k (Nat.lt_of_lt_of_le hk1 h.size) (fun e => hk2 (hk k hk1 e))).trans (h.block k hk1 hk2)⟩
set_option maxRecDepth 100000 in
theorem mono (h : Chg K a b) (hk : ∀ k, k < a.heap.size → K k → K' k) : Chg K' a b := ⟨h.os, h.tape, h.output, h.size, fun k h1 h2 => h.block k h1 fun e => h2 (hk k h1 e)⟩
set_option maxRecDepth 100000 in
theorem grown {r : Option Nat} (h : a.grownBy b r) (hk : ∀ k, r = some k → K k) : Chg K a b := ⟨h.os, h.tape, h.output, h.size, fun k h1 h2 => h.block k h1 fun e => h2 (hk k e.symm)⟩
set_option maxRecDepth 100000 in
theorem below (h : Below a.heap.size a b) : Chg K a b := ⟨h.os, h.tape, h.output, h.size, fun k h1 _ => h.block k h1⟩
set_option maxRecDepth 100000 in
theorem setCell (h : Chg K a b) {p : Addr} (hp : K p.block ∨ a.heap.size ≤ p.block) (v : Value) : Chg K a (b.setCell p v) :=
  ⟨h.os, h.tape, h.output, by simpa using h.size, fun k h1 h2 => (heap_setCell_other b p k v (fun e => by
    rcases hp with hp | hp
    · exact h2 (by simpa [e] using hp)
    · omega)).trans (h.block k h1 h2)⟩
set_option maxRecDepth 100000 in
theorem drewN (h : Chg K a b) (q : Nat) : Chg K a (b.drewN q) := ⟨h.os, h.tape, h.output, h.size, h.block⟩
set_option maxRecDepth 100000 in
theorem toBelow (h : Chg K a b) {B : Nat} (hk : ∀ k, K k → B ≤ k) (hB : B ≤ a.heap.size) : Below B a b := ⟨h.os, h.tape, h.output, h.size, fun k h1 => h.block k (Nat.lt_of_lt_of_le h1 hB) fun e => by have := hk k e; omega⟩
end Chg

/-- The free slots' numbers as cells. -/
def ics (m : Nat) (d : Nat → Nat) : List Value := (List.range m).map fun k => Value.int .i64 ((d k : Nat) : Int)
set_option maxRecDepth 100000 in
theorem ics_len (m : Nat) (d : Nat → Nat) : (ics m d).length = m := by simp [ics]
set_option maxRecDepth 100000 in
theorem ics_get {m : Nat} (d : Nat → Nat) {k : Nat} (h : k < m) : (ics m d)[k]? = some (.int .i64 ((d k : Nat) : Int)) := by simp [ics, h]
set_option maxRecDepth 100000 in
theorem ics_succ (m : Nat) (d : Nat → Nat) : ics (m + 1) d = ics m d ++ [.int .i64 ((d m : Nat) : Int)] := by simp [ics, List.range_succ]
set_option maxRecDepth 100000 in
theorem ics_congr {m : Nat} {d d' : Nat → Nat} (h : ∀ k, k < m → d k = d' k) : ics m d = ics m d' := by
  apply List.map_congr_left
  intro k hk
  rw [h k (by simpa using hk)]
set_option maxRecDepth 100000 in
theorem ics_swap {m i j : Nat} (d : Nat → Nat) (hi : i < m) (hj : j < m) : ((ics m d).set i (.int .i64 ((d j : Nat) : Int))).set j (.int .i64 ((d i : Nat) : Int)) = ics m (swp d i j) := by
  apply List.ext_getElem?
  intro k
  rw [List.getElem?_set, List.getElem?_set]
  simp only [List.length_set, ics_len]
  by_cases h1 : j = k
  · subst h1
    rw [if_pos rfl, if_pos hj, ics_get _ hj, swp_j]
  · rw [if_neg h1]
    by_cases h2 : i = k
    · subst h2
      rw [if_pos rfl, if_pos hi, ics_get _ hi, swp_i]
    · rw [if_neg h2]
      by_cases hk : k < m
      · rw [ics_get _ hk, ics_get _ hk, swp_o d (fun e => h2 e.symm) (fun e => h1 e.symm)]
      · rw [List.getElem?_eq_none (by rw [ics_len]; omega), List.getElem?_eq_none (by rw [ics_len]; omega)]

/-- The store's variable, and the row of its free slots. -/
structure Fre (w : World) (S : Nat) (v1 v3 : Value) (F : Option Addr) (m e : Nat) (d : Nat → Nat) : Prop where
  blk : w.heap[S]? = some (.cells #[v1, .slice F m e, v3] 57 (0, 0))
  row : w.ownsRow 0 3 1 (.slice F m e) m (ics m d)
namespace Fre
variable {w : World} {S : Nat} {v1 v3 : Value} {F : Option Addr} {m e : Nat} {d : Nat → Nat}
set_option maxRecDepth 100000 in
theorem lt (h : Fre w S v1 v3 F m e d) : S < w.heap.size := (Array.getElem?_eq_some_iff.1 h.blk).1
set_option maxRecDepth 100000 in
theorem c0 (h : Fre w S v1 v3 F m e d) : w.cell? ⟨S, 0, none⟩ = some v1 := by rw [cell_of_row w S 0 _ _ (0, 0) h.blk]; rfl
set_option maxRecDepth 100000 in
theorem c1 (h : Fre w S v1 v3 F m e d) : w.cell? ⟨S, 1, none⟩ = some (.slice F m e) := by rw [cell_of_row w S 1 _ _ (0, 0) h.blk]; rfl
set_option maxRecDepth 100000 in
theorem c2 (h : Fre w S v1 v3 F m e d) : w.cell? ⟨S, 2, none⟩ = some v3 := by rw [cell_of_row w S 2 _ _ (0, 0) h.blk]; rfl
set_option maxRecDepth 100000 in
theorem fz (h : Fre w S v1 v3 F m e d) (i : Nat) : w.frozen? ⟨S, i, none⟩ = false := frozen_of_row w S i _ _ h.blk
set_option maxRecDepth 100000 in
theorem some (h : Fre w S v1 v3 F m e d) (hm : 0 < m) : ∃ g, F = Option.some ⟨g, 0, none⟩ ∧ g < w.heap.size ∧ g ≠ S := by
  rcases h.row.2 with ⟨_, h0⟩ | ⟨g, cap, cur, hv, _, hg, _⟩
  · omega
  · cases hv
    refine ⟨g, rfl, (Array.getElem?_eq_some_iff.1 hg).1, ?_⟩
    rintro rfl
    rw [h.blk] at hg
    injection hg with hg
    injection hg with _ hg
    exact absurd hg (by decide)
set_option maxRecDepth 100000 in
theorem ne (h : Fre w S v1 v3 F m e d) : (Value.slice F m e).ownBlock ≠ Option.some S := by
  intro h0
  rcases h.row.2 with ⟨h1, _⟩ | ⟨g, cap, cur, hv, _, hg, _⟩
  · rw [h1] at h0; cases h0
  · rw [hv] at h0
    simp only [Value.ownBlock, Option.some.injEq] at h0
    subst h0
    rw [h.blk] at hg
    injection hg with hg
    injection hg with _ hg
    exact absurd hg (by decide)
set_option maxRecDepth 100000 in
theorem bound (h : Fre w S v1 v3 F m e d) : m ≤ e ∧ e ≤ maxLen := by
  rcases h.row.2 with ⟨h0, h0'⟩ | ⟨g, cap, cur, hv, hbg, hg, h1, h2, _⟩
  · cases h0; exact ⟨Nat.le_refl _, Nat.zero_le _⟩
  · cases hv; exact ⟨h1, h2⟩
set_option maxRecDepth 100000 in
theorem el {g : Nat} (h : Fre w S v1 v3 (Option.some ⟨g, 0, none⟩) m e d) {i : Nat} (hi : i < m) : w.cell? ⟨g, i, none⟩ = Option.some (.int .i64 ((d i : Nat) : Int)) := by
  rw [World.ownsRow.cellAt h.row i (by omega), ics_get _ hi]
set_option maxRecDepth 100000 in
theorem elf {g : Nat} (h : Fre w S v1 v3 (Option.some ⟨g, 0, none⟩) m e d) (i : Nat) : w.frozen? ⟨g, i, none⟩ = false := World.ownsRow.frozenAt h.row i
set_option maxRecDepth 100000 in
/-- What keeps the variable and the row. -/
theorem chg {w' : World} {K : Nat → Prop} (h : Fre w S v1 v3 F m e d) (hc : Chg K w w') (h1 : ¬ K S) (h2 : ∀ k, F.map (·.block) = Option.some k → ¬ K k) : Fre w' S v1 v3 F m e d := by
  refine ⟨(hc.block S h.lt h1).trans h.blk, h.row.1, ?_⟩
  rcases h.row.2 with h0 | ⟨g, cap, cur, hv, hb, hg, rest⟩
  · exact .inl h0
  · refine .inr ⟨g, cap, cur, hv, hb, ?_, rest⟩
    cases hv
    exact (hc.block g (Array.getElem?_eq_some_iff.1 hg).1 (h2 g rfl)).trans hg
set_option maxRecDepth 100000 in
theorem drewN (h : Fre w S v1 v3 F m e d) (q : Nat) : Fre (w.drewN q) S v1 v3 F m e d := ⟨h.blk, h.row⟩
set_option maxRecDepth 100000 in
theorem swap {g : Nat} (h : Fre w S v1 v3 (Option.some ⟨g, 0, none⟩) m e d) {i j : Nat} (hi : i < m) (hj : j < m) :
    Fre ((w.setCell ⟨g, i, none⟩ (.int .i64 ((d j : Nat) : Int))).setCell ⟨g, j, none⟩ (.int .i64 ((d i : Nat) : Int))) S v1 v3 (Option.some ⟨g, 0, none⟩) m e (swp d i j) ∧
      w.grownBy ((w.setCell ⟨g, i, none⟩ (.int .i64 ((d j : Nat) : Int))).setCell ⟨g, j, none⟩ (.int .i64 ((d i : Nat) : Int))) (Option.some g) := by
  obtain ⟨a1, a2⟩ := World.ownsRow.stored h.row i (.int .i64 ((d j : Nat) : Int))
  obtain ⟨b1, b2⟩ := World.ownsRow.stored a1 j (.int .i64 ((d i : Nat) : Int))
  rw [ics_swap d hi hj] at b1
  have hg : w.grownBy _ (Option.some g) := a2.trans b2
  refine ⟨⟨(hg.block S h.lt (fun e => h.ne e.symm)).trans h.blk, b1⟩, hg⟩
end Fre

set_option maxRecDepth 100000 in
theorem gr_drewN {w w' : World} {q : Nat} {r : Option Nat} (h : (w.drewN q).grownBy w' r) : w.grownBy w' r := ⟨h.os, h.tape, h.output, h.size, h.block⟩

/-- A pointer to the free slots, as package heap has it. -/
@[reducible] def hv (S : Nat) : Value := .iface 63 (.pointer (some ⟨S, 1, none⟩))

set_option maxRecDepth 100000 in
theorem len_any (F : Option Addr) (m e : Nat) (w : World) :
    Calls Try.prog 51 #[.slice F m e] w fun r w' => r = .returned (.int .i64 (m : Int)) ∧ w = w' := by
  go_enter Try.func51, Try.ntmps51
  go_wp2
  go_ret
  exact ⟨rfl, rfl⟩

set_option maxRecDepth 100000 in
set_option maxRecDepth 100000 in
set_option maxHeartbeats 2000000 in
theorem less_any {w : World} {S : Nat} {v1 v3 : Value} {F : Option Addr} {m e : Nat} {d : Nat → Nat} (h : Fre w S v1 v3 F m e d) (i j : Nat) (hi : i < m) (hj : j < m) (hm : m ≤ 100000) :
    Calls Try.prog 52 #[.slice F m e, .int .i64 (i : Int), .int .i64 (j : Int)] w fun r w' => r = .returned (.bool (decide (d i < d j))) ∧ ∃ q, w' = w.drewN q := by
  obtain ⟨g, rfl, hg, _⟩ := h.some (by omega)
  have x1 := h.el hi
  have x2 := h.el hj
  have hb := h.bound
  have hd : decide (((d i : Nat) : Int) < ((d j : Nat) : Int)) = decide (d i < d j) := by
    by_cases hh : d i < d j
    · rw [decide_eq_true hh, decide_eq_true (by omega)]
    · rw [decide_eq_false hh, decide_eq_false (by omega)]
  clear h hb
  go_enter Try.func52, Try.ntmps52
  go_wp2_with fail
  go_quiet (fail)
  go_wp2
  go_ret
  exact ⟨rfl, _, rfl⟩

set_option maxRecDepth 100000 in
set_option maxRecDepth 100000 in
set_option maxHeartbeats 2000000 in
theorem swap_any {w : World} {S : Nat} {v1 v3 : Value} {F : Option Addr} {m e : Nat} {d : Nat → Nat} (h : Fre w S v1 v3 F m e d) (i j : Nat) (hi : i < m) (hj : j < m) (hm : m ≤ 100000) :
    Calls Try.prog 53 #[.slice F m e, .int .i64 (i : Int), .int .i64 (j : Int)] w fun r w' => r = .returned (.tuple #[]) ∧ Fre w' S v1 v3 F m e (swp d i j) ∧ w.grownBy w' (F.map (·.block)) := by
  obtain ⟨g, rfl, hg, _⟩ := h.some (by omega)
  have x1 := h.el hi
  have x2 := h.el hj
  have f1 := h.elf i
  have f2 := h.elf j
  have H := Lib.hid (h.swap hi hj)
  clear h
  by_cases hij : i = j
  · subst hij
    go_enter Try.func53, Try.ntmps53
    go_wp2_with fail
    go_region
    all_goals
      go_wp2
      go_end0
      exact ⟨rfl, H.out.1.drewN 1, ⟨rfl, rfl, rfl, H.out.2.size, H.out.2.block⟩⟩
  · go_enter Try.func53, Try.ntmps53
    go_wp2_with fail
    go_region
    all_goals
      go_wp2
      go_end0
      exact ⟨rfl, H.out.1.drewN 1, ⟨rfl, rfl, rfl, H.out.2.size, H.out.2.block⟩⟩
set_option maxRecDepth 100000 in
theorem meth_len (k : Nat) (a : Addr) (v : Value) (w : World) (h : w.cell? a = some v) : (method (k + 1) 63 (.pointer (some a)) "Len").run Try.prog w = .ok (51, v) w := by
  have e : (method (k + 1) 63 (.pointer (some a)) "Len").run Try.prog w = (do let v ← load a; pure (51, v) : Sem (FuncId × Value)).run Try.prog w := by kernel_rfl
  rw [e]
  simp [h]
set_option maxRecDepth 100000 in
theorem meth_less (k : Nat) (a : Addr) (v : Value) (w : World) (h : w.cell? a = some v) : (method (k + 1) 63 (.pointer (some a)) "Less").run Try.prog w = .ok (52, v) w := by
  have e : (method (k + 1) 63 (.pointer (some a)) "Less").run Try.prog w = (do let v ← load a; pure (52, v) : Sem (FuncId × Value)).run Try.prog w := by kernel_rfl
  rw [e]
  simp [h]
set_option maxRecDepth 100000 in
theorem meth_swap (k : Nat) (a : Addr) (v : Value) (w : World) (h : w.cell? a = some v) : (method (k + 1) 63 (.pointer (some a)) "Swap").run Try.prog w = .ok (53, v) w := by
  have e : (method (k + 1) 63 (.pointer (some a)) "Swap").run Try.prog w = (do let v ← load a; pure (53, v) : Sem (FuncId × Value)).run Try.prog w := by kernel_rfl
  rw [e]
  simp [h]
set_option maxRecDepth 100000 in
theorem meth_push (k : Nat) (a : Addr) (w : World) : (method (k + 1) 63 (.pointer (some a)) "Push").run Try.prog w = .ok (55, .pointer (some a)) w := by kernel_rfl
set_option maxRecDepth 100000 in
theorem meth_pop (k : Nat) (a : Addr) (w : World) : (method (k + 1) 63 (.pointer (some a)) "Pop").run Try.prog w = .ok (54, .pointer (some a)) w := by kernel_rfl

set_option maxRecDepth 100000 in
set_option maxRecDepth 100000 in
set_option maxHeartbeats 2000000 in
theorem pop_any {w : World} {S : Nat} {v1 v3 : Value} {F : Option Addr} {m e : Nat} {d : Nat → Nat} (h : Fre w S v1 v3 F (m + 1) e d) (hm : m ≤ 100000) :
    Calls Try.prog 54 #[.pointer (some ⟨S, 1, none⟩)] w fun r w' => r = .returned (.iface 3 (.int .i64 ((d m : Nat) : Int))) ∧ Fre w' S v1 v3 F m e d ∧ w.grownBy w' (some S) := by
  obtain ⟨g, rfl, hg, hgS⟩ := h.some (by omega)
  have x1 := h.c1
  have x2 := h.el (i := m) (by omega)
  have f1 := h.fz 1
  have hb := h.bound
  have hE : Hid (((m + 1 : Nat) : Int) - 1 = (m : Int)) := Lib.hid (by omega)
  have H : Hid (Fre (w.setCell ⟨S, 1, none⟩ (.slice (some ⟨g, 0, none⟩) m e)) S v1 v3 (some ⟨g, 0, none⟩) m e d) := Lib.hid (by
    refine ⟨?_, ?_⟩
    · rw [heap_setCell_same w S 1 _ _ _ h.blk]
      simp
    · have hr := h.row
      rw [ics_succ] at hr
      have hr := ownsRow_pop (by rw [ics_len]; omega) hr
      refine ⟨hr.1, ?_⟩
      rcases hr.2 with h0 | ⟨g', cap, cur, hv, hb, hg', rest⟩
      · exact .inl h0
      · refine .inr ⟨g', cap, cur, hv, hb, ?_, rest⟩
        cases hv
        rw [heap_setCell_other w ⟨S, 1, none⟩ g _ hgS]
        exact hg')
  clear h
  go_enter Try.func54, Try.ntmps54
  go_wp2_with fail
  go_ret
  exact ⟨rfl, H.out, rfl, rfl, rfl, by simp, fun k _ hk => heap_setCell_other w ⟨S, 1, none⟩ k _ (fun e => hk (by rw [e]))⟩

set_option maxRecDepth 100000 in
theorem und_nums : Try.prog.underlying 55 = some (.slice 3) := by kernel_rfl
set_option maxRecDepth 100000 in
theorem info_int : (Try.prog.info? 3).map (fun i => (i.zero, i.size, i.bytes)) = some (some (.int .i64 0), 1, 8) := by kernel_rfl
set_option maxRecDepth 100000 in
theorem info_int' : ∃ i, Try.prog.info? 3 = some i ∧ i.zero = some (.int .i64 0) ∧ i.size = 1 ∧ i.bytes = 8 := by
  have h := info_int
  cases hi : Try.prog.info? 3 with
  | none => rw [hi] at h; simp at h
  | some i => rw [hi] at h; simp at h; exact ⟨i, rfl, h.1, h.2.1, h.2.2⟩

/-- What lies in the store's variable, or its row of free slots. -/
def kF (S : Nat) (F : Option Addr) (k : Nat) : Prop := k = S ∨ F.map (·.block) = some k
set_option maxRecDepth 100000 in
theorem own_of (A : Option Addr) (n c : Nat) : (Value.slice A n c).ownBlock = A.map (·.block) := by cases A <;> rfl

set_option maxRecDepth 100000 in
theorem app_free {w : World} {S : Nat} {v1 v3 : Value} {F : Option Addr} {m e : Nat} {d : Nat → Nat} (h : Fre w S v1 v3 F m e d) (hm : m ≤ 100000) (g0 : Nat) (x : Nat) (ha : w.cell? ⟨g0, 0, none⟩ = some (.int .i64 (x : Int))) (ty : TypeId) (d1 : Nat → Nat) (e1 : ∀ k, k < m → d1 k = d k) (e2 : d1 m = x) :
    ∃ F' e' w', (Builtin.append_ #[55, 55] ty #[.slice F m e, .slice (some ⟨g0, 0, none⟩) 1 1]).run Try.prog w = .ok (.slice F' (m + 1) e') w' ∧ w'.ownsRow 0 3 1 (.slice F' (m + 1) e') (m + 1) (ics (m + 1) d1) ∧ w.grownBy w' (F.map (·.block)) ∧
      (∀ k, F'.map (·.block) = some k → F.map (·.block) = some k ∨ w.heap.size ≤ k) := by
  obtain ⟨i, hi, hz, hs, hb⟩ := info_int'
  obtain ⟨v', w', hrun, ho, hg, _, hloc⟩ := run_append_own_at (P := Try.prog) w 0 55 ty 3 i (.int .i64 0) 1 8 und_nums hi hz hs hb rfl (by decide) (.slice F m e) m (ics m d) h.row ⟨g0, 0, none⟩ 1 1 [.int .i64 (x : Int)] rfl (by
    intro j u hu
    cases j with
    | zero =>
      have : (⟨g0, 0, none⟩ : Addr).add 0 = ⟨g0, 0, none⟩ := by unfold Addr.add; split <;> simp_all
      rw [this]
      simp at hu
      rw [← hu]
      exact ha
    | succ j => simp at hu) (by intro u hu; simp at hu; subst hu; rfl) (by unfold maxLen; omega) (by omega) (by omega)
  have hform : ∃ F' e', v' = .slice F' (m + 1) e' := by
    rcases ho.2 with ⟨rfl, h0⟩ | ⟨g, cap, cur, rfl, _⟩
    · omega
    · exact ⟨_, _, rfl⟩
  obtain ⟨F', e', rfl⟩ := hform
  rw [own_of] at hg hloc
  rw [own_of] at hloc
  refine ⟨F', e', w', hrun, ?_, hg, fun k hk => ?_⟩
  · rw [ics_succ, e2, ics_congr e1]
    exact ho
  · rcases hloc with e | e
    · rw [e] at hk; exact .inl hk
    · rw [e] at hk
      cases hk
      exact .inr (Nat.le_refl _)

set_option maxRecDepth 100000 in
/-- append, as one step of a region that draws. -/
theorem step_app {P : Program} {ops : Array Oper} {o : Oper} {a : Act} {w w' : World} {K : Act → World → Prop} {Q : Exit → Act → World → Prop} {E : Prop}
    (hg : o.guard = none) (s x : Operand) (t : TypeId) (hop : o.op = Op.call { callee := Callee.builtin Builtin.append, args := #[s, x], argTypes := #[t, t] })
    (v y v' : Value) (hs : a.eval s = v) (hx : a.eval x = y) (hrun : (Builtin.append_ #[t, t] o.type #[v, y]).run P w = .ok v' w')
    (hK : K (a.put o.dst v') w') : if Region.wanted o (yielded ops a.tmps) = true then Oper.wp P o a w K Q else E := by
  have hw : Region.wanted o (yielded ops a.tmps) = true := by simp [Region.wanted, hg]
  rw [if_pos hw]
  unfold Oper.wp
  simp [execOp, hop, resolve, invoke, builtin, hs, hx, hrun, Result.andThen]
  exact hK

set_option maxRecDepth 100000 in
set_option maxRecDepth 100000 in
set_option maxHeartbeats 2000000 in
theorem push_any {w : World} {S : Nat} {v1 v3 : Value} {F : Option Addr} {m e : Nat} {d : Nat → Nat} (h : Fre w S v1 v3 F m e d) (hm : m ≤ 100000) (x : Nat) (d1 : Nat → Nat) (e1 : ∀ k, k < m → d1 k = d k) (e2 : d1 m = x) :
    Calls Try.prog 55 #[.pointer (some ⟨S, 1, none⟩), .iface 3 (.int .i64 (x : Int))] w fun r w' => r = .returned (.tuple #[]) ∧ ∃ F' e', Fre w' S v1 v3 F' (m + 1) e' d1 ∧ Chg (kF S F) w w' ∧ (∀ k, F'.map (·.block) = some k → F.map (·.block) = some k ∨ w.heap.size ≤ k) := by
  have hd : Chg (kF S F) w (w.drew.alloc (.cells #[.int .i64 (x : Int)] 3)) := .below (((Below.refl _ w).drew).alloc (Nat.le_refl _) _)
  have h1 : Fre (w.drew.alloc (.cells #[.int .i64 (x : Int)] 3)) S v1 v3 F m e d := h.chg (K := fun _ => False) (.below (((Below.refl _ w).drew).alloc (Nat.le_refl _) _)) (fun h => h) (fun _ _ h => h)
  have hA : (w.drew.alloc (.cells #[.int .i64 (x : Int)] 3)).cell? ⟨w.drew.heap.size, 0, none⟩ = some (.int .i64 (x : Int)) := by
    rw [cell_of_row _ w.drew.heap.size 0 _ _ (0, 0) (heap_alloc_new w.drew _)]
    rfl
  obtain ⟨F', e', w', hrun, ho, hg, hloc⟩ := app_free h1 hm w.drew.heap.size x hA 55 d1 e1 e2
  have hS : some S ≠ F.map (·.block) := fun e => h.ne (by rw [own_of]; exact e.symm)
  have hbS : w'.heap[S]? = some (.cells #[v1, .slice F m e, v3] 57 (0, 0)) := (hg.block S h1.lt hS).trans h1.blk
  have y1 : w'.cell? ⟨S, 1, none⟩ = some (.slice F m e) := by rw [cell_of_row w' S 1 _ _ (0, 0) hbS]; rfl
  have y2 : w'.frozen? ⟨S, 1, none⟩ = false := frozen_of_row w' S 1 _ _ hbS
  have x1 := h.c1
  have x2 : (w.alloc (.cells #[.int .i64 (x : Int)] 3)).cell? ⟨S, 1, none⟩ = some (.slice F m e) := h1.c1
  have f1 := h.fz 1
  have hsz : w.drew.heap.size = w.heap.size := rfl
  have qa : ∀ w : World, (Instr.typeAssert (.iface 3 (.int .i64 (x : Int))) 20 3 false).run Try.prog w = .ok (.int .i64 (x : Int)) w := fun _ => by kernel_rfl
  have HF : Hid (Fre (w'.setCell ⟨S, 1, none⟩ (.slice F' (m + 1) e')) S v1 v3 F' (m + 1) e' d1) := Lib.hid (by
    refine ⟨?_, ?_⟩
    · rw [heap_setCell_same w' S 1 _ _ _ hbS]
      simp
    · refine ⟨ho.1, ?_⟩
      rcases ho.2 with h0 | ⟨g, cap, cur, hv, hb, hg', rest⟩
      · exact .inl h0
      · refine .inr ⟨g, cap, cur, hv, hb, ?_, rest⟩
        rw [heap_setCell_other w' ⟨S, 1, none⟩ g _ ?_]
        · exact hg'
        · rintro rfl
          rw [hbS] at hg'
          injection hg' with hg'
          injection hg' with _ hg'
          exact absurd hg' (by decide))
  have HC : Hid (Chg (kF S F) w (w'.setCell ⟨S, 1, none⟩ (.slice F' (m + 1) e'))) := Lib.hid (((hd.trans (Chg.grown hg (K := kF S F) (fun k hk => .inr hk)) (fun _ _ h => h))).setCell (.inl (.inl rfl)) _)
  have HL : Hid (∀ k, F'.map (·.block) = some k → F.map (·.block) = some k ∨ w.heap.size ≤ k) := Lib.hid (fun k hk => (hloc k hk).imp id (fun h => by simp at h; omega))
  have HR := Lib.hid hrun
  clear hrun ho hg hloc hd h1 hA hbS h
  go_enter Try.func55, Try.ntmps55
  go_wp2_with fail
  go_region_law (first | (refine step_app rfl _ _ 55 rfl _ _ _ rfl rfl HR.out ?_))
  all_goals
    go_wp2
    go_end0
    exact ⟨rfl, _, _, HF.out, HC.out, HL.out⟩
end Go.Proofs.Ytacanobhfebnaaa
