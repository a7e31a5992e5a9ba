/-
  LIMBS IN MEMORY: what a slice of limbs holds, and what keeps it.
-/
import Derived.Test.YtabiihdcbpfoiaaNatB
import Derived.Test.YtabiihdcbpfoiaaProg
import Derived.WalkKit
import Derived.WalkSpells
import Derived.Lib.Hide
import Derived.Below
import Derived.BigQuiet
import Derived.Deep.QuietTactic
import Derived.Deep.Draws
namespace Go.Proofs.Ytabiihdcbpfoiaa
open Go.RowKit

/-- The slice 'A, n, c' holds the limbs l. -/
def Lim (w : World) (A : Option Addr) (n c : Nat) (l : List Nat) : Prop :=
  l.length = n ∧ n ≤ c ∧ Lm.Small l ∧ (0 < n → ∃ b o, A = some ⟨b, o, none⟩ ∧ b < w.heap.size ∧ ∀ j, j < n → w.cell? ⟨b, o + j, none⟩ = some (.int .u32 (Lm.lg l j : Nat)))

set_option maxRecDepth 100000 in
theorem Lim.below {w w' : World} {A : Option Addr} {n c : Nat} {l : List Nat} (h : Lim w A n c l) (hb : Below w.heap.size w w') : Lim w' A n c l := by
  refine ⟨h.1, h.2.1, h.2.2.1, fun hn => ?_⟩
  obtain ⟨b, o, e, hlt, hc⟩ := h.2.2.2 hn
  exact ⟨b, o, e, Nat.lt_of_lt_of_le hlt hb.size, fun j hj => (hb.cell (p := ⟨b, o + j, none⟩) hlt).trans (hc j hj)⟩
set_option maxRecDepth 100000 in
theorem Lim.alloc {w : World} {A : Option Addr} {n c : Nat} {l : List Nat} (h : Lim w A n c l) (o : Obj) : Lim (w.alloc o) A n c l :=
  h.below ((Below.refl _ _).alloc (Nat.le_refl _) o)
set_option maxRecDepth 100000 in
theorem Lim.nil (w : World) (A : Option Addr) (c : Nat) : Lim w A 0 c [] := ⟨rfl, Nat.zero_le _, Lm.small_nil, fun h => absurd h (by omega)⟩
set_option maxRecDepth 100000 in
theorem Lim.take {w : World} {A : Option Addr} {n c : Nat} {l : List Nat} (h : Lim w A n c l) (k : Nat) (hk : k ≤ n) : Lim w A k c (l.take k) := by
  refine ⟨by rw [List.length_take, h.1]; omega, Nat.le_trans hk h.2.1, Lm.small_take h.2.2.1 k, fun hn => ?_⟩
  obtain ⟨b, o, e, hlt, hc⟩ := h.2.2.2 (by omega)
  refine ⟨b, o, e, hlt, fun j hj => ?_⟩
  rw [hc j (by omega), Lm.lg_take hj]

set_option maxRecDepth 100000 in
theorem Lim.drewN {w : World} {A : Option Addr} {n c : Nat} {l : List Nat} (h : Lim w A n c l) (q : Nat) : Lim (w.drewN q) A n c l := h
set_option maxRecDepth 100000 in
theorem _root_.Go.RowKit.Below.drewN' {B : Nat} {a w : World} (h : Below B a w) (n : Nat) : Below B a (w.drewN n) := ⟨h.os, h.tape, h.output, h.size, h.block⟩

set_option maxRecDepth 100000 in
theorem info_limb : (Try.prog.info? 37).map (fun i => (i.zero, i.size, i.bytes)) = some (some (.int .u32 0), 1, 4) := by kernel_rfl
set_option maxRecDepth 100000 in
theorem info_limb' : ∃ i, Try.prog.info? 37 = some i ∧ i.zero = some (.int .u32 0) ∧ i.size = 1 ∧ i.bytes = 4 := by
  have h := info_limb
  cases hi : Try.prog.info? 37 with
  | none => rw [hi] at h; simp at h
  | some i => rw [hi] at h; simp at h; exact ⟨i, rfl, h.1, h.2.1, h.2.2⟩

/-- Limbs as cells. -/
def arr (t : List Nat) : Array Value := (t.map fun x : Nat => Value.int .u32 (x : Int)).toArray
set_option maxRecDepth 100000 in
theorem arr_size (t : List Nat) : (arr t).size = t.length := by simp [arr]
set_option maxRecDepth 100000 in
theorem arr_get {t : List Nat} {i : Nat} (h : i < t.length) : (arr t)[i]? = some (.int .u32 (Lm.lg t i : Nat)) := by
  simp [arr, Lm.lg, h]
set_option maxRecDepth 100000 in
theorem arr_set (t : List Nat) (i x : Nat) : (arr t).setIfInBounds i (.int .u32 (x : Int)) = arr (t.set i x) := by
  simp [arr, List.map_set]
set_option maxRecDepth 100000 in
theorem arr_made (n : Nat) : madeCells (Value.int .u32 0).cells (n * 1) = arr (List.replicate n 0) := by
  apply Array.ext
  · simp [size_madeCells, arr]
  · intro i h1 h2
    simp [madeCells, arr, Value.cells, Nat.mod_one]

set_option maxRecDepth 100000 in
/-- A new row of limbs. -/
theorem Lim.new (w : World) (t : List Nat) (hs : Lm.Small t) : Lim (w.alloc (.cells (arr t) 37)) (some ⟨w.heap.size, 0, none⟩) t.length t.length t := by
  refine ⟨rfl, Nat.le_refl _, hs, fun _ => ⟨w.heap.size, 0, rfl, by simp, fun j hj => ?_⟩⟩
  rw [World.cell?_alloc_at _ _ _ _ rfl, Nat.zero_add, arr_get hj]

end Go.Proofs.Ytabiihdcbpfoiaa
