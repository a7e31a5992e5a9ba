/-
  PACKAGE arena in memory: New, Used, Regions, wrong.
-/
import Derived.Test.YtmgikdkcdihdlaaAnA
import Derived.Test.YtmgikdkcdihdlaaChg
import Derived.WalkSpells
import Derived.Lib.Hide
import Derived.Below
import Derived.BigRegion
import Derived.BigQuiet
import Derived.IntWalk
import Derived.Deep.QuietTactic
import Derived.Deep.Draws
import Derived.WalkSmall
import Derived.Deep.RegionLaw
namespace Go.Proofs.Ytmgikdkcdihdlaa
open Go.RowKit
open Go.Maps (keyOf_int_mk int_keyed)
open An

set_option maxRecDepth 100000 in
theorem lawI : Maps.Keyed Try.prog 3 := int_keyed Try.underlying3
set_option maxRecDepth 100000 in
theorem zeroI (w : World) : (zeroValue 3).run Try.prog w = .ok (.int .i64 0) w := by kernel_rfl

/-- The block is a map that holds just these regions. -/
def Mpo (w : World) (b : Nat) (L : List (Int × Int)) : Prop := ∃ D : DataW Unit, w.ownsMap Try.prog 3 (plainElem Try.prog 3) b L.length D ∧ MpL D L
set_option maxRecDepth 100000 in
theorem Mpo.tight {w : World} {b n : Nat} {D : DataW Unit} {L : List (Int × Int)} (h : w.ownsMap Try.prog 3 (plainElem Try.prog 3) b n D) (hm : MpL D L) : Mpo w b L := by
  refine ⟨D, ?_, hm⟩
  obtain ⟨es, clock, hb, F, _, e⟩ := h
  refine ⟨es, clock, hb, F, ?_, e⟩
  have := hm.size
  rw [e] at this
  simp [Maps.size, length_sorted] at this
  omega
set_option maxRecDepth 100000 in
theorem Mpo.chg {w w' : World} {b : Nat} {L : List (Int × Int)} {K : Nat → Prop} (h : Mpo w b L) (hc : Chg K w w') (hk : ¬ K b) : Mpo w' b L := by
  obtain ⟨D, h1, h2⟩ := h
  have hlt := h1.lt
  obtain ⟨es, clock, hb, r⟩ := h1
  exact ⟨D, ⟨es, clock, (hc.block b hlt hk).trans hb, r⟩, h2⟩
set_option maxRecDepth 100000 in
theorem Mpo.is {w : World} {b : Nat} {L : List (Int × Int)} (h : Mpo w b L) : ∃ es clock, w.heap[b]? = some (.map es clock) := by
  obtain ⟨D, ⟨es, clock, hb, _⟩, _⟩ := h
  exact ⟨es, clock, hb⟩

/-- An arena: its variable, its map. -/
structure Arn (w : World) (S b : Nat) (s : Ars) : Prop where
  blk : w.heap[S]? = some (.cells #[.int .i64 s.bud, .map (some b), .int .i64 s.beh, .int .i64 (sumn s.L), .int .i64 s.chg] 49 (0, 0))
  map : Mpo w b s.L
/-- What lies in it. -/
def kA (S b : Nat) (k : Nat) : Prop := k = S ∨ k = b
namespace Arn
variable {w w' : World} {S b : Nat} {s : Ars}
set_option maxRecDepth 100000 in
theorem lt (h : Arn w S b s) : S < w.heap.size := (Array.getElem?_eq_some_iff.1 h.blk).1
set_option maxRecDepth 100000 in
theorem ltb (h : Arn w S b s) : b < w.heap.size := by
  obtain ⟨es, clock, hb⟩ := h.map.is
  exact (Array.getElem?_eq_some_iff.1 hb).1
set_option maxRecDepth 100000 in
theorem ne (h : Arn w S b s) : b ≠ S := by
  rintro rfl
  obtain ⟨es, clock, hb⟩ := h.map.is
  rw [h.blk] at hb
  cases hb
set_option maxRecDepth 100000 in
theorem c0 (h : Arn w S b s) : w.cell? ⟨S, 0, none⟩ = some (.int .i64 s.bud) := by rw [cell_of_row w S 0 _ _ (0, 0) h.blk]; rfl
set_option maxRecDepth 100000 in
theorem c1 (h : Arn w S b s) : w.cell? ⟨S, 1, none⟩ = some (.map (some b)) := by rw [cell_of_row w S 1 _ _ (0, 0) h.blk]; rfl
set_option maxRecDepth 100000 in
theorem c2 (h : Arn w S b s) : w.cell? ⟨S, 2, none⟩ = some (.int .i64 s.beh) := by rw [cell_of_row w S 2 _ _ (0, 0) h.blk]; rfl
set_option maxRecDepth 100000 in
theorem c3 (h : Arn w S b s) : w.cell? ⟨S, 3, none⟩ = some (.int .i64 (sumn s.L)) := by rw [cell_of_row w S 3 _ _ (0, 0) h.blk]; rfl
set_option maxRecDepth 100000 in
theorem c4 (h : Arn w S b s) : w.cell? ⟨S, 4, none⟩ = some (.int .i64 s.chg) := by rw [cell_of_row w S 4 _ _ (0, 0) h.blk]; rfl
set_option maxRecDepth 100000 in
theorem fz (h : Arn w S b s) (i : Nat) : w.frozen? ⟨S, i, none⟩ = false := frozen_of_row w S i _ _ h.blk
set_option maxRecDepth 100000 in
theorem keep {K : Nat → Prop} (h : Arn w S b s) (hc : Chg K w w') (h1 : ¬ K S) (h2 : ¬ K b) : Arn w' S b s := ⟨(hc.block S h.lt h1).trans h.blk, h.map.chg hc h2⟩
set_option maxRecDepth 100000 in
theorem below (h : Arn w S b s) (hb : Below w.heap.size w w') : Arn w' S b s := h.keep (Chg.below (K := fun _ => False) hb) (fun h => h) (fun h => h)
set_option maxRecDepth 100000 in
theorem drewN (h : Arn w S b s) (q : Nat) : Arn (w.drewN q) S b s := ⟨h.blk, h.map⟩
end Arn

set_option maxRecDepth 100000 in
set_option maxRecDepth 100000 in
theorem newA_any (n : Int) (hn : 0 ≤ n ∧ n ≤ 16777216) (w : World) :
    Calls Try.prog 7 #[.int .i64 n] w fun r w' => r = .returned (.pointer (some ⟨w.heap.size + 1, 0, none⟩)) ∧ Arn w' (w.heap.size + 1) w.heap.size ⟨n, 0, 0, []⟩ ∧ Below w.heap.size w w' ∧ w'.heap.size = w.heap.size + 2 := by
  have hmm := @run_makeMap Try.prog
  have hd1 : decide (n < 0) = false := decide_eq_false (by omega)
  have hd2 : decide (16777216 < n) = false := decide_eq_false (by omega)
  go_enter Try.func7, Try.ntmps7
  go_wp2
  go_ret
  have h0 := World.ownsMap_made w Try.prog 3 (plainElem (H := Unit) Try.prog 3)
  refine ⟨rfl, ⟨?_, ⟨_, h0.alloc _, MpL.new⟩⟩, ((Below.refl _ w).alloc (Nat.le_refl _) _).alloc (by simp) _, by simp⟩
  have := heap_alloc_new (w.alloc (.map #[] 0)) (.cells #[.int .i64 n, .map (some w.heap.size), .int .i64 0, .int .i64 0, .int .i64 0] 49)
  simpa [sumn] using this
set_option maxRecDepth 100000 in
set_option maxRecDepth 100000 in
theorem newA_none (n : Int) (hn : n < 0 ∨ 16777216 < n) (w : World) :
    Calls Try.prog 7 #[.int .i64 n] w fun r w' => r = .returned (.pointer none) ∧ w = w' := by
  by_cases h1 : n < 0
  · have hd1 : decide (n < 0) = true := decide_eq_true h1
    go_enter Try.func7, Try.ntmps7
    go_wp2
    go_ret
    exact ⟨rfl, rfl⟩
  · have hd1 : decide (n < 0) = false := decide_eq_false h1
    have hd2 : decide (16777216 < n) = true := decide_eq_true (by omega)
    go_enter Try.func7, Try.ntmps7
    go_wp2
    go_ret
    exact ⟨rfl, rfl⟩

set_option maxRecDepth 100000 in
set_option maxRecDepth 100000 in
theorem used_any {w : World} {S b : Nat} {s : Ars} {T : Int} (h : Arn w S b s) (hT : Ok T s) (hT2 : T ≤ 1000) :
    Calls Try.prog 18 #[.pointer (some ⟨S, 0, none⟩)] w fun r w' => r = .returned (.int .i64 (sumn s.L + s.chg)) ∧ ∃ q, w' = w.drewN q := by
  have x3 := h.c3
  have x4 := h.c4
  have hs := hT.sum
  have hc := hT.chg
  have hw : -100000000000 ≤ sumn s.L + s.chg ∧ sumn s.L + s.chg ≤ 100000000000 := by omega
  clear h hT
  go_enter Try.func18, Try.ntmps18
  go_wp2_with fail
  go_region
  all_goals
    go_wp2
    go_ret
    exact ⟨rfl, 1, rfl⟩

set_option maxRecDepth 100000 in
set_option maxRecDepth 100000 in
theorem regions_any {w : World} {S b : Nat} {s : Ars} (h : Arn w S b s) :
    Calls Try.prog 20 #[.pointer (some ⟨S, 0, none⟩)] w fun r w' => r = .returned (.int .i64 (s.L.length : Int)) ∧ w = w' := by
  have x1 := h.c1
  obtain ⟨D, ho, hm⟩ := h.map
  have hz := hm.size
  have HO := Lib.hid ho
  clear h ho hm
  go_enter Try.func20, Try.ntmps20
  go_wp2_with (at_len; refine wpList_len_own _ rfl _ 47 rfl 3 3 Try.underlying47 _ b _ D rfl HO.out ?_)
  go_ret
  exact ⟨rfl, rfl⟩

set_option maxRecDepth 100000 in
set_option maxRecDepth 100000 in
set_option maxHeartbeats 2000000 in
theorem wrong_any {w : World} {S b : Nat} {s : Ars} {T : Int} (h : Arn w S b s) (hT : Ok T s) (hT2 : T ≤ 1000) (n least : Int) (hl : 0 ≤ least) :
    Calls Try.prog 22 #[.pointer (some ⟨S, 0, none⟩), .int .i64 n, .int .i64 least] w fun r w' => r = .returned (.int .i64 (wr s n least)) ∧ ∃ q, w' = w.drewN q := by
  rcases wr_cases s n least with ⟨e, h1⟩ | ⟨e, h1, h2, h3⟩ | ⟨e, h1, h2⟩
  · rw [e]
    clear e h hT
    by_cases h2 : n < least
    · have hd : decide (n < least) = true := decide_eq_true h2
      go_enter Try.func22, Try.ntmps22
      go_wp2
      go_ret
      exact ⟨rfl, 0, rfl⟩
    · have hd : decide (n < least) = false := decide_eq_false h2
      have hd2 : decide (16777216 < n) = true := decide_eq_true (by omega)
      clear h1
      go_enter Try.func22, Try.ntmps22
      go_wp2
      go_ret
      exact ⟨rfl, 0, rfl⟩
  · rw [e]
    have hd : decide (n < least) = false := decide_eq_false (by omega)
    have hd2 : decide (16777216 < n) = false := decide_eq_false (by omega)
    have hd3 : decide (0 < s.bud) = true := decide_eq_true h2
    have hd4 : decide (s.bud < sumn s.L + s.chg + n) = true := decide_eq_true h3
    have x0 := h.c0
    have hb := hT.bud
    have hs := hT.sum
    have hc := hT.chg
    have hw : -100000000000 ≤ sumn s.L + s.chg + n ∧ sumn s.L + s.chg + n ≤ 100000000000 := by omega
    have HU := Lib.hid (fun (q : Nat) => Calls.quiet_of (w := w) (n := q) (used_any (h.drewN q) hT hT2))
    clear e h hT h1 h2 h3
    go_enter Try.func22, Try.ntmps22
    go_wp2_with fail
    go_quiet (first | (go_at_call 18; with_reducible exact HU.out _))
    go_wp2
    go_ret
    exact ⟨rfl, _, rfl⟩
  · rw [e]
    have hd : decide (n < least) = false := decide_eq_false (by omega)
    have hd2 : decide (16777216 < n) = false := decide_eq_false (by omega)
    have x0 := h.c0
    have hb := hT.bud
    have hs := hT.sum
    have hc := hT.chg
    have HU := Lib.hid (fun (q : Nat) => Calls.quiet_of (w := w) (n := q) (used_any (h.drewN q) hT hT2))
    rcases h2 with h2 | ⟨h2, h3⟩
    · have hd3 : decide (0 < s.bud) = false := decide_eq_false (by omega)
      clear e h hT h1 h2
      go_enter Try.func22, Try.ntmps22
      go_wp2_with fail
      go_quiet (fail)
      go_wp2
      go_ret
      exact ⟨rfl, _, rfl⟩
    · have hd3 : decide (0 < s.bud) = true := decide_eq_true h2
      have hd4 : decide (s.bud < sumn s.L + s.chg + n) = false := decide_eq_false (by omega)
      have hw : -100000000000 ≤ sumn s.L + s.chg + n ∧ sumn s.L + s.chg + n ≤ 100000000000 := by omega
      clear e h hT h1 h2 h3
      go_enter Try.func22, Try.ntmps22
      go_wp2_with fail
      go_quiet (first | (go_at_call 18; with_reducible exact HU.out _))
      go_wp2
      go_ret
      exact ⟨rfl, _, rfl⟩
end Go.Proofs.Ytmgikdkcdihdlaa
