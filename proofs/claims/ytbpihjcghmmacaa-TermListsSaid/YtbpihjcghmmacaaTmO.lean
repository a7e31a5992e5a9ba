/-
  ROWS OF TERMS THAT A CALL MAKES: appending to them.
-/
import Derived.Test.YtbpihjcghmmacaaTmN
import Derived.Maps.AppendAt
namespace Go.Proofs.Ytbpihjcghmmacaa
open Go.RowKit

theorem und_terms : Try.prog.underlying 26 = some (.slice 28) := by kernel_rfl
theorem info_term : (Try.prog.info? 28).map (fun i => (i.zero, i.size, i.bytes)) = some (some (.agg #[.int .i64 zeroR.k, .int .i64 zeroR.n, .bool zeroR.g, .slice zeroR.A zeroR.ln zeroR.lc, .int .u64 zeroR.u, .string zeroR.s, .slice zeroR.B zeroR.m zeroR.d]), 7, 96) := by kernel_rfl
theorem info_term' : ∃ i, Try.prog.info? 28 = some i ∧ i.zero = some (.agg #[.int .i64 zeroR.k, .int .i64 zeroR.n, .bool zeroR.g, .slice zeroR.A zeroR.ln zeroR.lc, .int .u64 zeroR.u, .string zeroR.s, .slice zeroR.B zeroR.m zeroR.d]) ∧ i.size = 7 ∧ i.bytes = 96 := by
  have h := info_term
  cases hi : Try.prog.info? 28 with
  | none => rw [hi] at h; simp at h
  | some i => rw [hi] at h; simp at h; exact ⟨i, rfl, h.1, h.2.1, h.2.2⟩

/-- The cells of so many records. -/
def rcells (V : Nat → TR) : Nat → List Value
  | 0 => []
  | m + 1 => rcells V m ++ (V m).cells
theorem rcells_len (V : Nat → TR) (m : Nat) : (rcells V m).length = m * 7 := by
  induction m with
  | zero => rfl
  | succ m ih => rw [rcells, List.length_append, ih]; simp [TR.cells]; omega
theorem rcells_get (V : Nat → TR) {m i j : Nat} (hi : i < m) (hj : j < 7) : (rcells V m)[i * 7 + j]? = (V i).cells[j]? := by
  induction m with
  | zero => omega
  | succ m ih =>
    rw [rcells]
    by_cases h : i < m
    · rw [List.getElem?_append_left (by rw [rcells_len]; omega), ih h]
    · have : i = m := by omega
      subst this
      rw [List.getElem?_append_right (by rw [rcells_len]; omega), rcells_len]
      congr 1
      omega
theorem rcells_congr {V V' : Nat → TR} {m : Nat} (h : ∀ i, i < m → V i = V' i) : rcells V m = rcells V' m := by
  induction m with
  | zero => rfl
  | succ m ih => rw [rcells, rcells, ih (fun i hi => h i (by omega)), h m (by omega)]
theorem cells_one {r : TR} : ∀ u ∈ r.cells, u.oneCell' = true := by
  intro u hu
  simp only [TR.cells, List.mem_cons, List.not_mem_nil, or_false] at hu
  rcases hu with rfl | rfl | rfl | rfl | rfl | rfl | rfl <;> rfl

theorem TVS.lt {S : Nat → Prop} {w : World} {r : TR} {t : Tm} (h : TVS S w r t) : TVS (fun b => S b ∧ b < w.heap.size) w r t := by
  induction h with
  | mk r l ks V hf hm hs on hk ih => exact .mk r l ks V hf hm hs ⟨fun h a e => ⟨on.lim h a e, hf.lim.blk h a e⟩, fun h a e => ⟨on.arg h a e, hs.blk h a e⟩⟩ ih

/-- The slice is a row of the call's own; its elements stand for the terms; what they lead to lies from block 'base' on, and not in the row itself. -/
structure Row7 (w : World) (base : Nat) (B : Option Addr) (m d : Nat) (ts : List Tm) : Prop where
  len : ts.length = m
  ex : ∃ V : Nat → TR, w.ownsRow base 28 7 (.slice B m d) m (rcells V m) ∧ ∀ i t, ts[i]? = some t → TVS (fun b => base ≤ b ∧ (Value.slice B m d).ownBlock ≠ some b) w (V i) t
theorem Row7.nil (w : World) (base : Nat) : Row7 w base none 0 0 [] := ⟨rfl, fun _ => default, World.ownsRow_nil _ _ _ _, fun i t e => by simp at e⟩
theorem Row7.below {w w' : World} {base m d : Nat} {B : Option Addr} {ts : List Tm} (h : Row7 w base B m d ts) (hb : Below w.heap.size w w') : Row7 w' base B m d ts := by
  obtain ⟨V, h1, h2⟩ := h.ex
  refine ⟨h.len, V, ⟨h1.1, ?_⟩, fun i t e => (h2 i t e).keep (hb.keeps _)⟩
  rcases h1.2 with h0 | ⟨g, cap, cur, hv, hbg, hg, rest⟩
  · exact .inl h0
  · exact .inr ⟨g, cap, cur, hv, hbg, (hb.block g (Array.getElem?_eq_some_iff.1 hg).1).trans hg, rest⟩
theorem Row7.md {w : World} {base m d : Nat} {B : Option Addr} {ts : List Tm} (h : Row7 w base B m d ts) : m ≤ d ∧ d ≤ maxLen := by
  obtain ⟨V, h1, h2⟩ := h.ex
  rcases h1.2 with ⟨h0, h0'⟩ | ⟨g, cap, cur, hv, hbg, hg, h1, h2, _⟩
  · cases h0; exact ⟨Nat.le_refl _, Nat.zero_le _⟩
  · cases hv; exact ⟨h1, h2⟩
theorem Row7.tvs {w : World} {base m d : Nat} {B : Option Addr} {ts : List Tm} (h : Row7 w base B m d ts) : TVSs (fun b => base ≤ b) w B m d ts := by
  have hmd := h.md
  obtain ⟨V, h1, h2⟩ := h.ex
  refine ⟨h.len, hmd.1, hmd.2, ?_, V, ?_, fun i t e => (h2 i t e).mono fun b hb => hb.1⟩
  · intro _ a e
    subst e
    exact (h1.lt a.block rfl).1
  · intro hm
    rcases h1.2 with ⟨h0, h0'⟩ | ⟨g, cap, cur, hv, hbg, hg, _⟩
    · omega
    · cases hv
      refine ⟨g, 0, rfl, (Array.getElem?_eq_some_iff.1 hg).1, fun i hi => At7.of fun j hj => ?_⟩
      rw [add_none, World.ownsRow.cellAt h1 _ (by omega), Nat.zero_add, rcells_get V hi hj]

/-- One more is put behind. -/
theorem Row7.push {w : World} {base m d : Nat} {B : Option Addr} {ts : List Tm} (h : Row7 w base B m d ts) {r : TR} {t : Tm} (ht : TVS (fun b => base ≤ b ∧ (Value.slice B m d).ownBlock ≠ some b) w r t)
    (a : Addr) (c : Nat) (ha : ∀ j u, r.cells[j]? = some u → w.cell? (a.add j) = some u) (hm : m ≤ 100000) (hbase : base ≤ w.heap.size) (ty : TypeId) :
    ∃ B' d' w', (Builtin.append_ #[26, 26] ty #[.slice B m d, .slice (some a) 1 c]).run Try.prog w = .ok (.slice B' (m + 1) d') w' ∧ Row7 w' base B' (m + 1) d' (ts ++ [t]) ∧ Below base w w' ∧
      ((Value.slice B' (m + 1) d').ownBlock = (Value.slice B m d).ownBlock ∨ (Value.slice B' (m + 1) d').ownBlock = some w.heap.size) := by
  obtain ⟨i, hi, hz, hs, hb⟩ := info_term'
  obtain ⟨V, h1, h2⟩ := h.ex
  obtain ⟨v', w', hrun, ho, hg, hn, hloc⟩ := run_append_own_at (P := Try.prog) w base 26 ty 28 i _ 7 96 und_terms hi hz hs hb rfl (by decide) (.slice B m d) m (rcells V m) h1 a 1 c r.cells (by simp [TR.cells]) ha cells_one (by unfold maxLen; omega) (by omega) hbase
  have hform : ∃ B' d', v' = .slice B' (m + 1) d' := by
    rcases ho.2 with ⟨_, h0⟩ | ⟨g, cap, cur, rfl, _⟩
    · omega
    · exact ⟨_, _, rfl⟩
  obtain ⟨B', d', rfl⟩ := hform
  have hrow : ∀ k, (Value.slice B m d).ownBlock = some k → base ≤ k := fun k hk => (World.ownsRow.lt h1 k hk).1
  have hkeep : Keeps (fun b => (base ≤ b ∧ (Value.slice B m d).ownBlock ≠ some b) ∧ b < w.heap.size) w w' := ⟨hg.size, fun b hb hl => hg.block b hl (fun e => hb.1.2 e.symm)⟩
  have hS : ∀ b, (base ≤ b ∧ (Value.slice B m d).ownBlock ≠ some b) ∧ b < w.heap.size → base ≤ b ∧ (Value.slice B' (m + 1) d').ownBlock ≠ some b := fun b hb => ⟨hb.1.1, by
    rcases hloc with e | e
    · rw [e]; exact hb.1.2
    · rw [e]; intro e'; cases e'; exact absurd hb.2 (by omega)⟩
  refine ⟨B', d', w', hrun, ⟨by rw [List.length_append, h.len]; rfl, fun i => if i < m then V i else r, ?_, ?_⟩, (Below.refl base w).grown hg hbase hrow, hloc⟩
  · have e : rcells (fun i => if i < m then V i else r) (m + 1) = rcells V m ++ r.cells := by
      rw [rcells, if_neg (by omega), rcells_congr (V' := V) (fun i hi => by simp [hi])]
    rw [e]
    exact ho
  · intro i x e
    by_cases hlt : i < m
    · rw [List.getElem?_append_left (by rw [h.len]; exact hlt)] at e
      simp only [hlt, if_true]
      exact ((h2 i x e).lt.keep hkeep).mono hS
    · rw [List.getElem?_append_right (by rw [h.len]; omega), h.len] at e
      have hz : i - m = 0 := by
        rcases Nat.eq_zero_or_pos (i - m) with hz | hz
        · exact hz
        · rw [List.getElem?_eq_none (by simp; omega)] at e; cases e
      rw [hz] at e
      simp at e
      subst e
      simp only [hlt, if_false]
      exact (ht.lt.keep hkeep).mono hS
end Go.Proofs.Ytbpihjcghmmacaa
