/-
  CONTRACTS OF THE LAWS' OWN FUNCTIONS ON INTEGERS (beehiveref1): Small.
  CONTRACTS OF LendLimbs, KeptLimbs, OverLimbs (beehivelaw0).
  CONTRACTS OF LendLimbs, KeptLimbs, OverLimbs (beehivelaw0): the walks.
-/
import Derived.Test.YtejmmjedognaaaaQ13
namespace Go.Proofs.Ytejmmjedognaaaa
open Go.RowKit

set_option maxRecDepth 100000 in
theorem or_u64' (v x : Nat) (hv : v ≤ 4294967295) (hx : x ≤ 4294967295) : bits .or .u64 ((v : Int) * 4294967296) (x : Int) = ((x + 4294967296 * v : Nat) : Int) := by
  have e : ((v : Int) * 4294967296) = ((v * 4294967296 : Nat) : Int) := by omega
  rw [e, bits_or_u64_nat _ _ (by omega) (by omega)]
  have h := Nat.shiftLeft_add_eq_or_of_lt (a := v) (b := x) (i := 32) (by omega)
  rw [Nat.shiftLeft_eq] at h
  rw [← h]
  congr 1
  omega
set_option maxRecDepth 100000 in
theorem val_drop_pred {l : List Nat} {j : Nat} (h0 : 0 < j) (hj : j ≤ l.length) : Lm.val (l.drop (j - 1)) = Lm.lg l (j - 1) + 4294967296 * Lm.val (l.drop j) := by
  obtain ⟨i, rfl⟩ : ∃ i, j = i + 1 := ⟨j - 1, by omega⟩
  rw [Nat.add_sub_cancel, List.drop_eq_getElem_cons (by omega), Lm.val]
  congr 1
  simp only [Lm.lg, List.getD_eq_getElem?_getD]
  rw [List.getElem?_eq_getElem (by omega)]
  rfl

end Go.Proofs.Ytejmmjedognaaaa

namespace Go.Proofs.Ytejmmjedognaaaa
open Go.RowKit

set_option maxRecDepth 100000 in
/-- append(row, limbs...): what it changes is the row alone. -/
theorem append_grown (w : World) (base : Nat) (A0 : Option Addr) (n0 c0 : Nat) (l0 : List Nat) (hown : Own w base A0 n0 c0 l0) (ad : Addr) (n c : Nat) (l : List Nat) (h : Lim w (some ad) n c l) (hn : n0 + n ≤ 100000) (hbase : base ≤ w.heap.size) (ty : TypeId) :
    ∃ v' w', (Builtin.append_ #[35, 35] ty #[.slice A0 n0 c0, .slice (some ad) n c]).run Try.prog w = .ok v' w' ∧ w.grownBy w' (Value.slice A0 n0 c0).ownBlock := by
  obtain ⟨i, hi, hz, hs, hb⟩ := info_limb'
  have hcells : ∀ j u, (limbVs l)[j]? = some u → w.cell? (ad.add j) = some u := by
    intro j u hu
    have hj : j < l.length := by
      rcases Nat.lt_or_ge j l.length with hj | hj
      · exact hj
      · rw [List.getElem?_eq_none (by rw [limbVs_len]; exact hj)] at hu; cases hu
    obtain ⟨b, o, e, _, hc⟩ := h.2.2.2 (by have := h.1; omega)
    injection e with e
    subst e
    rw [limbVs_get hj] at hu
    injection hu with hu
    subst hu
    have hadd : (⟨b, o, none⟩ : Addr).add j = ⟨b, o + j, none⟩ := by unfold Addr.add; split <;> simp_all
    rw [hadd]
    exact hc j (by have := h.1; omega)
  have h1 : ∀ u ∈ limbVs l, u.oneCell' = true := by
    intro u hu
    simp only [limbVs, List.mem_map] at hu
    obtain ⟨x, _, rfl⟩ := hu
    rfl
  obtain ⟨v', w', hrun, _, hg, _⟩ := run_append_own (P := Try.prog) w base 35 ty 105 i (.int .u32 0) 1 4 und_limbs hi hz hs hb rfl (by decide) (.slice A0 n0 c0) n0 (limbVs l0) hown.2.2 ad n c (limbVs l) (by rw [limbVs_len, h.1]; omega) hcells h1 (by unfold maxLen; omega) (by omega) hbase
  exact ⟨v', w', hrun, hg⟩

/-- Block g is a row of limbs of a given room, none of them frozen. -/
def Rw (w : World) (g N : Nat) (cs : Array Value) : Prop := w.heap[g]? = some (.cells cs 105 (0, 0)) ∧ cs.size = N
section
variable {w w' : World} {g N : Nat} {cs : Array Value}
set_option maxRecDepth 100000 in
theorem Rw.lt (h : Rw w g N cs) : g < w.heap.size := (Array.getElem?_eq_some_iff.1 h.1).1
set_option maxRecDepth 100000 in
theorem Rw.cell (h : Rw w g N cs) (i : Nat) : w.cell? ⟨g, i, none⟩ = cs[i]? := cell_of_row w g i cs _ (0, 0) h.1
set_option maxRecDepth 100000 in
theorem Rw.fz (h : Rw w g N cs) (i : Nat) : w.frozen? ⟨g, i, none⟩ = false := by have := h.1; simp [World.frozen?, this]
set_option maxRecDepth 100000 in
theorem Rw.some (h : Rw w g N cs) {i : Nat} (hi : i < N) : ∃ u, w.cell? ⟨g, i, none⟩ = some u := by
  rw [h.cell, Array.getElem?_eq_getElem (by rw [h.2]; exact hi)]
  exact ⟨_, rfl⟩
set_option maxRecDepth 100000 in
theorem Rw.set (h : Rw w g N cs) (i : Nat) (u : Value) : Rw (w.setCell ⟨g, i, none⟩ u) g N (cs.setIfInBounds i u) := by
  refine ⟨?_, by rw [Array.size_setIfInBounds]; exact h.2⟩
  have := h.1
  simp [World.setCell, Array.getElem?_modify, this]
set_option maxRecDepth 100000 in
theorem Rw.drewN (h : Rw w g N cs) (q : Nat) : Rw (w.drewN q) g N cs := h
end

/-- Limbs that are lent: behind them stand three marks. -/
def Lent (w : World) (g n : Nat) (l : List Nat) : Prop :=
  l.length = n ∧ Lm.Small l ∧ g < w.heap.size ∧ (∀ j, j < n → w.cell? ⟨g, j, none⟩ = some (.int .u32 (Lm.lg l j : Nat))) ∧ ∀ i, i < 3 → w.cell? ⟨g, n + i, none⟩ = some (.int .u32 30583)
set_option maxRecDepth 100000 in
theorem Lent.raw {w : World} {g n : Nat} {l : List Nat} (h : Lent w g n l) (hn : n ≤ 1000) : Raw w (some ⟨g, 0, none⟩) n (n + 3) l :=
  ⟨⟨h.1, by omega, h.2.1, fun _ => ⟨g, 0, rfl, h.2.2.1, fun j hj => by rw [Nat.zero_add]; exact h.2.2.2.1 j hj⟩⟩, by unfold maxLen; omega⟩
set_option maxRecDepth 100000 in
theorem Lent.keep {w w' : World} {g n : Nat} {l : List Nat} (h : Lent w g n l) (hs : w.heap.size ≤ w'.heap.size) (hb : w'.heap[g]? = w.heap[g]?) : Lent w' g n l :=
  ⟨h.1, h.2.1, Nat.lt_of_lt_of_le h.2.2.1 hs, fun j hj => (World.cell?_of_block (w := w) (a := ⟨g, j, none⟩) hb).trans (h.2.2.2.1 j hj), fun i hi => (World.cell?_of_block (w := w) (a := ⟨g, n + i, none⟩) hb).trans (h.2.2.2.2 i hi)⟩
set_option maxRecDepth 100000 in
theorem Lent.below {w w' : World} {g n : Nat} {l : List Nat} (h : Lent w g n l) (hb : Below w.heap.size w w') : Lent w' g n l := h.keep hb.size (hb.block g h.2.2.1)

/-- What LendLimbs leaves. -/
def LendPost (w : World) (n : Nat) (l : List Nat) (e : Ending) (w' : World) : Prop :=
  ∃ g, e = .returned (.slice (some ⟨g, 0, none⟩) n (n + 3)) ∧ Lent w' g n l ∧ w.heap.size ≤ g ∧ Below w.heap.size w w' ∧ ∃ cs f, w'.heap[g]? = some (.cells cs 105 f)

set_option maxRecDepth 100000 in
theorem make_lend (n : Nat) (hn : n ≤ 1000) (w : World) :
    (Instr.makeSlice 35 (.int .i64 0) (.int .i64 ((n : Int) + 3))).run Try.prog w = .ok (.slice (some ⟨w.heap.size, 0, none⟩) 0 (n + 3)) (w.alloc (.cells (arr (List.replicate (n + 3) 0)) 105)) := by
  obtain ⟨i, hi, hz, hs, hb⟩ := info_limb'
  have h := run_make (P := Try.prog) w 35 105 i (.int .u32 0) und_limbs hi hz .i64 .i64 0 ((n : Int) + 3) (by omega) (by omega) (by rw [hb]; omega) (by omega)
  rw [hs] at h
  have e : ((n : Int) + 3).toNat = n + 3 := by omega
  rw [e] at h
  simp only [Int.toNat_zero] at h
  rw [h, arr_made]

set_option maxRecDepth 100000 in
/-- The append of LendLimbs: it fits. -/
theorem append_lend (w : World) (g n : Nat) (hg : Own w w.heap.size none 0 0 [] → Rw w g (n + 3) (arr (List.replicate (n + 3) 0))) (A : Option Addr) (c : Nat) (l : List Nat) (h : Lim w A n c l) (hn : n ≤ 1000) (ty : TypeId) :
    ∃ w' cs, (Builtin.append_ #[35, 35] ty #[.slice (some ⟨g, 0, none⟩) 0 (n + 3), .slice A n c]).run Try.prog w = .ok (.slice (some ⟨g, 0, none⟩) n (n + 3)) w' ∧ Rw w' g (n + 3) cs ∧ (∀ j, j < n → cs[j]? = some (.int .u32 (Lm.lg l j : Nat))) ∧ w.grownBy w' (some g) := by
  have hr := hg (Own.nil _ _)
  obtain ⟨i, hi, hz, hs, hb⟩ := info_limb'
  have hown : w.ownsRow g 105 1 (.slice (some ⟨g, 0, none⟩) 0 (n + 3)) 0 [] := ⟨by simp, .inr ⟨g, n + 3, _, rfl, Nat.le_refl _, hr.1, Nat.zero_le _, by unfold maxLen; omega, by rw [hr.2]; omega, by simp⟩⟩
  cases A with
  | none =>
    have h0 : n = 0 := by
      rcases Nat.eq_zero_or_pos n with h0 | h0
      · exact h0
      · obtain ⟨b, o, e, _⟩ := h.2.2.2 h0
        cases e
    subst h0
    refine ⟨w, _, ?_, hr, fun j hj => by omega, World.grownBy.refl _ _⟩
    simp [Builtin.append_, run_underlying und_limbs, sizeOf, typeInfo, hi, Builtin.lenOf, Builtin.firstCells, storeCells]
  | some ad =>
    have hcells : ∀ j u, (limbVs l)[j]? = some u → w.cell? (ad.add j) = some u := by
      intro j u hu
      have hj : j < l.length := by
        rcases Nat.lt_or_ge j l.length with hj | hj
        · exact hj
        · rw [List.getElem?_eq_none (by rw [limbVs_len]; exact hj)] at hu; cases hu
      obtain ⟨b, o, e, _, hc⟩ := h.2.2.2 (by have := h.1; omega)
      injection e with e
      subst e
      rw [limbVs_get hj] at hu
      injection hu with hu
      subst hu
      have hadd : (⟨b, o, none⟩ : Addr).add j = ⟨b, o + j, none⟩ := by unfold Addr.add; split <;> simp_all
      rw [hadd]
      exact hc j (by have := h.1; omega)
    have h1 : ∀ u ∈ limbVs l, u.oneCell' = true := by
      intro u hu
      simp only [limbVs, List.mem_map] at hu
      obtain ⟨x, _, rfl⟩ := hu
      rfl
    obtain ⟨w', hrun, ho, hgr⟩ := run_append_fits (P := Try.prog) w g 35 ty 105 i 1 und_limbs hi hs g 0 (n + 3) [] hown ad n c (limbVs l) (by rw [limbVs_len, h.1]; omega) hcells h1 (by omega)
    rw [Nat.zero_add] at hrun ho
    rcases ho.2 with ⟨hv, _⟩ | ⟨g', cap, cur, hv, _, hh, _, _, hsz, htk⟩
    · cases hv
    · injection hv with hA _ hc
      injection hA with hA
      injection hA with hA
      subst hA hc
      refine ⟨w', cur, hrun, ⟨hh, by omega⟩, fun j hj => ?_, hgr⟩
      have e : (cur.toList.take (n * 1))[j]? = (limbVs l)[j]? := by rw [htk, List.nil_append]
      rw [List.getElem?_take_of_lt (by omega), limbVs_get (by rw [h.1]; exact hj)] at e
      simpa using e

end Go.Proofs.Ytejmmjedognaaaa

namespace Go.Proofs.Ytejmmjedognaaaa
open Go.RowKit

set_option maxRecDepth 100000 in
theorem append_rw (w : World) (g n N : Nat) (cs : Array Value) (hr : Rw w g N cs) (hn : n ≤ N) (hN : N ≤ maxLen) (hn' : n ≤ 1000) (ty : TypeId) :
    ∃ v' w', (Builtin.append_ #[35, 35] ty #[.slice (some ⟨g, 0, none⟩) n N, .slice (some ⟨w.heap.size, 0, none⟩) 1 1]).run Try.prog (w.alloc (.cells #[.int .u32 61166] 105)) = .ok v' w' ∧ w.grownBy w' (some g) := by
  obtain ⟨i, hi, hz, hs, hb⟩ := info_limb'
  have hr' : Rw (w.alloc (.cells #[.int .u32 61166] 105)) g N cs := ⟨(Below.heap_alloc w _ g hr.lt).trans hr.1, hr.2⟩
  have hown : (w.alloc (.cells #[.int .u32 61166] 105)).ownsRow g 105 1 (.slice (some ⟨g, 0, none⟩) n N) n (cs.toList.take n) := ⟨by rw [List.length_take, Array.length_toList, hr.2]; omega, .inr ⟨g, N, cs, rfl, Nat.le_refl _, hr'.1, hn, hN, by rw [hr.2]; omega, by rw [Nat.mul_one]⟩⟩
  obtain ⟨v', w', hrun, _, hg, _⟩ := run_append_own (P := Try.prog) (w.alloc (.cells #[.int .u32 61166] 105)) g 35 ty 105 i (.int .u32 0) 1 4 und_limbs hi hz hs hb rfl (by decide) (.slice (some ⟨g, 0, none⟩) n N) n (cs.toList.take n) hown ⟨w.heap.size, 0, none⟩ 1 1 [.int .u32 61166] rfl (by
    intro j u hu
    rcases j with _ | j
    · simp at hu
      subst hu
      show (w.alloc _).cell? ⟨w.heap.size, 0, none⟩ = _
      rw [World.cell?_alloc_at _ _ _ _ rfl]
      rfl
    · simp at hu) (by intro u hu; simp at hu; subst hu; rfl) (by unfold maxLen; omega) (by omega) (by have := hr'.lt; omega)
  refine ⟨v', w', hrun, ?_⟩
  have ha := World.grownBy_alloc w (.cells #[.int .u32 61166] 105) (some g)
  exact ⟨hg.os.trans ha.os, hg.tape.trans ha.tape, hg.output.trans ha.output, Nat.le_trans ha.size hg.size, fun k hk hne => (hg.block k (Nat.lt_of_lt_of_le hk ha.size) hne).trans (ha.block k hk hne)⟩
set_option maxRecDepth 100000 in
theorem grown_set {w w' : World} {g i : Nat} {u : Value} (h : w.grownBy w' (some g)) : w.grownBy (w'.setCell ⟨g, i, none⟩ u) (some g) :=
  ⟨h.os, h.tape, h.output, by simpa [World.setCell] using h.size, fun k hk hne => (Below.heap_setCell w' ⟨g, i, none⟩ u k (fun e => hne (by rw [e]))).trans (h.block k hk hne)⟩
set_option maxRecDepth 100000 in
theorem grown_tr {a b c : World} {row : Option Nat} (h : a.grownBy b row) (k : b.grownBy c row) : a.grownBy c row :=
  ⟨k.os.trans h.os, k.tape.trans h.tape, k.output.trans h.output, Nat.le_trans h.size k.size, fun i hi hne => (k.block i (Nat.lt_of_lt_of_le hi h.size) hne).trans (h.block i hi hne)⟩

end Go.Proofs.Ytejmmjedognaaaa
