/-
  THE LAW StoreScript: what stands while it goes on.
-/
import Derived.Test.YtacanobhfebnaaaStO
namespace Go.Proofs.Ytacanobhfebnaaa
open Go.RowKit
open St

/-- Both stores, apart from each other, and an act in a variable. -/
structure ScI (W : World) (S R : Nat) (L1 L2 : List Slt) (K1 K2 : Nat → Prop) (w : World) : Prop where
  s : Str w K1 S L1
  r : Rst w K2 R L2
  dis : ∀ k, K1 k → ¬ K2 k
  up1 : ∀ k, K1 k → W.heap.size ≤ k
  up2 : ∀ k, K2 k → W.heap.size ≤ k
  be : Below W.heap.size W w
structure XV (K1 K2 : Nat → Prop) (X : Nat) (a : Act4) (w : World) : Prop where
  blk : w.heap[X]? = some (.cells a.cells.toArray 32 (0, 0))
  n1 : ¬ K1 X
  n2 : ¬ K2 X
set_option maxRecDepth 100000 in
theorem Str.lts {w : World} {K : Nat → Prop} {S : Nat} {L : List Slt} (h : Str w K S L) : ∀ k, K k → k < w.heap.size := by
  obtain ⟨A, c, F, m, e, d, hs, hi, hk, hl⟩ := h
  exact hl
set_option maxRecDepth 100000 in
theorem Rst.lts {w : World} {K : Nat → Prop} {R : Nat} {L : List Slt} (h : Rst w K R L) : ∀ k, K k → k < w.heap.size := by
  obtain ⟨A, c, hs, hk, hl⟩ := h
  exact hl
set_option maxRecDepth 100000 in
theorem Str.pos {w : World} {K : Nat → Prop} {S : Nat} {L : List Slt} (h : Str w K S L) : ∀ i, i < L.length → 0 ≤ (gt L i).ct := by
  obtain ⟨A, c, F, m, e, d, hs, hi, hk, hl⟩ := h
  exact hi.pos
namespace XV
variable {K1 K2 : Nat → Prop} {X : Nat} {a : Act4} {w w' : World}
set_option maxRecDepth 100000 in
theorem lt (h : XV K1 K2 X a w) : X < w.heap.size := (Array.getElem?_eq_some_iff.1 h.blk).1
set_option maxRecDepth 100000 in
theorem c1 (h : XV K1 K2 X a w) : w.cell? ⟨X, 1, none⟩ = some (.int .i64 a.sl) := by rw [cell_of_row w X 1 _ _ (0, 0) h.blk]; rfl
set_option maxRecDepth 100000 in
theorem c2 (h : XV K1 K2 X a w) : w.cell? ⟨X, 2, none⟩ = some (.int .i64 a.sp) := by rw [cell_of_row w X 2 _ _ (0, 0) h.blk]; rfl
set_option maxRecDepth 100000 in
theorem c0 (h : XV K1 K2 X a w) : w.cell? ⟨X, 0, none⟩ = some (.int .i64 a.k) := by rw [cell_of_row w X 0 _ _ (0, 0) h.blk]; rfl
set_option maxRecDepth 100000 in
theorem c3 (h : XV K1 K2 X a w) : w.cell? ⟨X, 3, none⟩ = some (.string a.tx) := by rw [cell_of_row w X 3 _ _ (0, 0) h.blk]; rfl
set_option maxRecDepth 100000 in
theorem drewN (h : XV K1 K2 X a w) (q : Nat) : XV K1 K2 X a (w.drewN q) := ⟨h.blk, h.n1, h.n2⟩
set_option maxRecDepth 100000 in
theorem keep {K : Nat → Prop} (h : XV K1 K2 X a w) (hc : Chg K w w') (hk : ¬ K X) : XV K1 K2 X a w' := ⟨(hc.block X h.lt hk).trans h.blk, h.n1, h.n2⟩
end XV
namespace ScI
variable {W : World} {S R : Nat} {L1 L2 L' : List Slt} {K1 K2 : Nat → Prop} {w w' : World} {X : Nat} {a : Act4}
set_option maxRecDepth 100000 in
theorem drewN (h : ScI W S R L1 L2 K1 K2 w) (q : Nat) : ScI W S R L1 L2 K1 K2 (w.drewN q) := ⟨h.s.drewN q, h.r.drewN q, h.dis, h.up1, h.up2, ⟨h.be.os, h.be.tape, h.be.output, h.be.size, h.be.block⟩⟩
set_option maxRecDepth 100000 in
theorem keep {K : Nat → Prop} (h : ScI W S R L1 L2 K1 K2 w) (hc : Chg K w w') (h1 : ∀ k, K k → ¬ K1 k ∧ ¬ K2 k ∧ W.heap.size ≤ k) : ScI W S R L1 L2 K1 K2 w' :=
  ⟨h.s.chg hc (fun k hk e => (h1 k e).1 hk), h.r.chg hc (fun k hk e => (h1 k e).2.1 hk), h.dis, h.up1, h.up2, h.be.trans (hc.toBelow (fun k hk => (h1 k hk).2.2) h.be.size)⟩
set_option maxRecDepth 100000 in
theorem below (h : ScI W S R L1 L2 K1 K2 w) (hb : Below w.heap.size w w') : ScI W S R L1 L2 K1 K2 w' := h.keep (Chg.below (K := fun _ => False) hb) (fun _ h => h.elim)
set_option maxRecDepth 100000 in
theorem one (h : ScI W S R L1 L2 K1 K2 w) (x : XV K1 K2 X a w) (hp : StP w K1 S L' w') : ∃ K1', ScI W S R L' L2 K1' K2 w' ∧ XV K1' K2 X a w' := by
  obtain ⟨K', h1, h2, h3⟩ := hp
  refine ⟨K', ⟨h1, h.r.chg h2 (fun k hk e => h.dis k e hk), fun k hk e => ?_, fun k hk => ?_, h.up2, h.be.trans (h2.toBelow h.up1 h.be.size)⟩, ?_⟩
  · rcases h3 k hk with h4 | h4
    · exact h.dis k h4 e
    · have := h.r.lts k e
      omega
  · rcases h3 k hk with h4 | h4
    · exact h.up1 k h4
    · exact Nat.le_trans h.be.size h4
  · have hx := x.keep h2 x.n1
    refine ⟨hx.blk, fun e => ?_, hx.n2⟩
    rcases h3 X e with h4 | h4
    · exact x.n1 h4
    · have := x.lt
      omega
set_option maxRecDepth 100000 in
theorem two (h : ScI W S R L1 L2 K1 K2 w) (x : XV K1 K2 X a w) (hp : RstP w K2 R L' w') : ∃ K2', ScI W S R L1 L' K1 K2' w' ∧ XV K1 K2' X a w' := by
  obtain ⟨K', h1, h2, h3⟩ := hp
  refine ⟨K', ⟨h.s.chg h2 (fun k hk e => h.dis k hk e), h1, fun k hk e => ?_, h.up1, fun k hk => ?_, h.be.trans (h2.toBelow h.up2 h.be.size)⟩, ?_⟩
  · rcases h3 k e with h4 | h4
    · exact h.dis k hk h4
    · have := h.s.lts k hk
      omega
  · rcases h3 k hk with h4 | h4
    · exact h.up2 k h4
    · exact Nat.le_trans h.be.size h4
  · have hx := x.keep h2 x.n2
    refine ⟨hx.blk, hx.n1, fun e => ?_⟩
    rcases h3 X e with h4 | h4
    · exact x.n2 h4
    · have := x.lt
      omega
end ScI

/-- What both stores are behind an act. -/
def nextL (L : List Slt) (a : Act4) : List Slt :=
  if a.k = 0 then (if a.tx.size ≤ 400 then putL L a.tx else L)
  else if a.k = 1 then (if err L a.sl a.sp = 0 then cntL L a.sl.toNat 1 else L)
  else if a.k = 2 then (if err L a.sl a.sp = 0 then cntL L a.sl.toNat (-1) else L)
  else L
set_option maxRecDepth 100000 in
theorem nextL_bd {T : Int} {L : List Slt} (h : Bd T L) (hT : 0 ≤ T) (a : Act4) : Bd (T + 1) (nextL L a) := by
  have hm : Bd (T + 1) L := h.mono (by omega)
  have hc : ∀ k : Int, k ≤ 1 → Bd (T + 1) (if err L a.sl a.sp = 0 then cntL L a.sl.toNat k else L) := fun k hk => by
    split
    · next he =>
      rcases err_cases L a.sl a.sp with ⟨h1, _⟩ | ⟨h1, _⟩ | ⟨h1, i, e, hi, _⟩
      · omega
      · omega
      · rw [e, show ((i : Int)).toNat = i by omega]
        exact h.cnt hi k hk
    · exact hm
  unfold nextL
  split
  · split
    · next hb => exact h.put hT a.tx hb
    · exact hm
  · split
    · exact hc 1 (by omega)
    · split
      · exact hc (-1) (by omega)
      · exact hm
end Go.Proofs.Ytacanobhfebnaaa
