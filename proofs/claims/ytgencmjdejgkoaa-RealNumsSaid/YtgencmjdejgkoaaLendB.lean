/-
  CONTRACTS OF LendLimbs, KeptLimbs, OverLimbs (beehivelaw0): the walks.
-/
import Derived.Test.YtgencmjdejgkoaaLend
namespace Go.Proofs.Ytgencmjdejgkoaa
open Go.RowKit

theorem append_rw (w : World) (g n N : Nat) (cs : Array Value) (hr : Rw w g N cs) (hn : n ≤ N) (hN : N ≤ maxLen) (hn' : n ≤ 1000) (ty : TypeId) :
    ∃ v' w', (Builtin.append_ #[29, 29] ty #[.slice (some ⟨g, 0, none⟩) n N, .slice (some ⟨w.heap.size, 0, none⟩) 1 1]).run Try.prog (w.alloc (.cells #[.int .u32 61166] 49)) = .ok v' w' ∧ w.grownBy w' (some g) := by
  obtain ⟨i, hi, hz, hs, hb⟩ := info_limb'
  have hr' : Rw (w.alloc (.cells #[.int .u32 61166] 49)) g N cs := ⟨(Below.heap_alloc w _ g hr.lt).trans hr.1, hr.2⟩
  have hown : (w.alloc (.cells #[.int .u32 61166] 49)).ownsRow g 49 1 (.slice (some ⟨g, 0, none⟩) n N) n (cs.toList.take n) := ⟨by rw [List.length_take, Array.length_toList, hr.2]; omega, .inr ⟨g, N, cs, rfl, Nat.le_refl _, hr'.1, hn, hN, by rw [hr.2]; omega, by rw [Nat.mul_one]⟩⟩
  obtain ⟨v', w', hrun, _, hg, _⟩ := run_append_own (P := Try.prog) (w.alloc (.cells #[.int .u32 61166] 49)) g 29 ty 49 i (.int .u32 0) 1 4 und_limbs hi hz hs hb rfl (by decide) (.slice (some ⟨g, 0, none⟩) n N) n (cs.toList.take n) hown ⟨w.heap.size, 0, none⟩ 1 1 [.int .u32 61166] rfl (by
    intro j u hu
    rcases j with _ | j
    · simp at hu
      subst hu
      show (w.alloc _).cell? ⟨w.heap.size, 0, none⟩ = _
      rw [World.cell?_alloc_at _ _ _ _ rfl]
      rfl
    · simp at hu) (by intro u hu; simp at hu; subst hu; rfl) (by unfold maxLen; omega) (by omega) (by have := hr'.lt; omega)
  refine ⟨v', w', hrun, ?_⟩
  have ha := World.grownBy_alloc w (.cells #[.int .u32 61166] 49) (some g)
  exact ⟨hg.os.trans ha.os, hg.tape.trans ha.tape, hg.output.trans ha.output, Nat.le_trans ha.size hg.size, fun k hk hne => (hg.block k (Nat.lt_of_lt_of_le hk ha.size) hne).trans (ha.block k hk hne)⟩
theorem grown_set {w w' : World} {g i : Nat} {u : Value} (h : w.grownBy w' (some g)) : w.grownBy (w'.setCell ⟨g, i, none⟩ u) (some g) :=
  ⟨h.os, h.tape, h.output, by simpa [World.setCell] using h.size, fun k hk hne => (Below.heap_setCell w' ⟨g, i, none⟩ u k (fun e => hne (by rw [e]))).trans (h.block k hk hne)⟩
theorem grown_tr {a b c : World} {row : Option Nat} (h : a.grownBy b row) (k : b.grownBy c row) : a.grownBy c row :=
  ⟨k.os.trans h.os, k.tape.trans h.tape, k.output.trans h.output, Nat.le_trans h.size k.size, fun i hi hne => (k.block i (Nat.lt_of_lt_of_le hi h.size) hne).trans (h.block i hi hne)⟩

end Go.Proofs.Ytgencmjdejgkoaa
