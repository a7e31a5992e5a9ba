/-
  PACKAGE store: copies of strings; Inc, Dec.
-/
import Derived.Test.YtacanobhfebnaaaStE
import Derived.Lib.Strings
import Derived.Lib.UnsafeStr
import Derived.Lib.BufferWrite
import Derived.Laws.MakeOwn
namespace Go.Proofs.Ytacanobhfebnaaa
open Go.RowKit
open St

set_option maxRecDepth 100000 in
theorem und_bytesS : Try.prog.underlying 74 = some (.slice 5) := by kernel_rfl
set_option maxRecDepth 100000 in
theorem info_byteS : (Try.prog.info? 5).map (fun i => (i.zero, i.size, i.bytes)) = some (some (.int .u8 0), 1, 1) := by kernel_rfl
set_option maxRecDepth 100000 in
theorem info_byteS' : ∃ i, Try.prog.info? 5 = some i ∧ i.zero = some (.int .u8 0) ∧ i.size = 1 ∧ i.bytes = 1 := by
  have h := info_byteS
  cases hi : Try.prog.info? 5 with
  | none => rw [hi] at h; simp at h
  | some i => rw [hi] at h; simp at h; exact ⟨i, rfl, h.1, h.2.1, h.2.2⟩

set_option maxRecDepth 100000 in
/-- make([]byte, n): a new row of n cells. -/
theorem bytes_made (n : Nat) (hn : n ≤ 100000) : ∃ M : Array Value, M.size = n ∧ ∀ w : World,
    (Instr.makeSlice 74 (.int .i64 (n : Int)) (.int .i64 (n : Int))).run Try.prog w = .ok (.slice (some ⟨w.heap.size, 0, none⟩) n n) (w.alloc (.cells M 5)) := by
  obtain ⟨i, hi, hz, hs, hb⟩ := info_byteS'
  refine ⟨madeCells (Value.int .u8 0).cells ((n : Int).toNat * i.size), by rw [size_madeCells, hs]; omega, fun w => ?_⟩
  exact run_make (P := Try.prog) w 74 5 i (.int .u8 0) und_bytesS hi hz .i64 .i64 n n (by omega) (by omega) (by rw [hb]; omega) (by omega)
set_option maxRecDepth 100000 in
/-- copy(row, text), the row as long as the text. -/
theorem bytes_copied {w : World} {g : Nat} {M : Array Value} {s : ByteArray} (hg : w.heap[g]? = some (.cells M 5 (0, 0))) (hM : M.size = s.size) :
    ∃ Y : Array Value, Y.toList = Lib.byteCells s.data.toList ∧ (Builtin.copy_ #[74, 9] 3 #[.slice (some ⟨g, 0, none⟩) s.size s.size, .string s]).run Try.prog w = .ok (goInt s.size) (w.setRow g Y) := by
  obtain ⟨i, hi, _, hs, _⟩ := info_byteS'
  refine ⟨_, ?_, Lib.run_copy_row_string w _ _ _ _ g 0 s.size s.size s M _ und_bytesS (by rw [hi, Option.map_some, hs]) hg (Nat.le_refl _) (by omega)⟩
  have h1 : M.toList.drop (0 + s.size) = [] := List.drop_eq_nil_of_le (by rw [Array.length_toList, hM]; omega)
  simp only [h1, List.take_zero, List.nil_append, List.append_nil]
set_option maxRecDepth 100000 in
/-- unsafe.String over such a row is the text. -/
theorem bytes_text {w : World} {g : Nat} {Y : Array Value} {s : ByteArray} (hg : w.heap[g]? = some (.cells Y 5 (0, 0))) (hY : Y.toList = Lib.byteCells s.data.toList) (h0 : 0 < s.size) (hs : s.size ≤ 100000) :
    (Builtin.unsafeString_ #[75, 3] 9 #[.pointer (some ⟨g, 0, none⟩), .int .i64 (s.size : Int)]).run Try.prog w = .ok (.string s) (w.freeze ⟨g, 0, none⟩ s.size) := by
  obtain ⟨i, hi, _, hz, _⟩ := info_byteS'
  have hl : s.data.toList.length = s.size := (Lib.size_eq s).symm
  have hYl : Y.size = s.size := by rw [← Array.length_toList, hY, Lib.byteCells_length, hl]
  have h := Lib.run_unsafeString_row (P := Try.prog) w 75 3 9 5 (by kernel_rfl) (by simp [Program.cellsOf, hi, hz]) g Y.size (by simp [World.shape?, hg]) s.data.toList
    (fun e => by rw [e] at hl; simp at hl; omega) (by omega) (by omega) (fun j x hx => by
      refine Lib.cells_of_row hg Y.size j _ ?_
      rw [List.take_of_length_le (Nat.le_of_eq Array.length_toList), hY]
      simp [Lib.byteCells, hx])
  rw [hl] at h
  exact h

set_option maxRecDepth 100000 in
set_option maxRecDepth 100000 in
set_option maxHeartbeats 2000000 in
theorem litClone_any (s : ByteArray) (hs : s.size ≤ 100000) (w : World) :
    Calls Try.prog 32 #[.string s] w fun r w' => r = .returned (.string s) ∧ Below w.heap.size w w' := by
  rcases Nat.eq_zero_or_pos s.size with h0 | h0
  · obtain rfl : s = ⟨#[]⟩ := ByteArray.ext (Array.eq_empty_of_size_eq_zero h0)
    go_enter Try.func32, Try.ntmps32
    go_wp2
    go_ret
    exact ⟨rfl, Below.refl _ _⟩
  · obtain ⟨M, hM, hmake⟩ := bytes_made s.size hs
    obtain ⟨Y, hY, hcopy⟩ := bytes_copied (w := w.alloc (.cells M 5)) (heap_alloc_new w _) hM
    have htext := bytes_text (setRow_heap (w.alloc (.cells M 5)) w.heap.size M Y _ _ (heap_alloc_new w _)) hY h0 hs
    have hYl : Y.size = s.size := by rw [← Array.length_toList, hY, Lib.byteCells_length, ← Lib.size_eq]
    have BB := Lib.hid (Lib.below_freeze (B := w.heap.size) (a := w) (w := (w.alloc (.cells M 5)).setRow w.heap.size Y) (p := ⟨w.heap.size, 0, none⟩)
      ⟨rfl, rfl, rfl, by simp, fun k hk => by rw [setRow_other _ _ _ _ (by omega)]; exact ((Below.refl _ w).alloc (Nat.le_refl _) _).block k hk⟩ (Nat.le_refl _))
    have hne : ¬ s.size = 0 := by omega
    clear hY
    go_enter Try.func32, Try.ntmps32
    go_wp2
    go_ret
    exact ⟨rfl, BB.out _⟩
set_option maxRecDepth 100000 in
theorem clone_any (s : ByteArray) (hs : s.size ≤ 100000) (w : World) :
    Calls Try.prog 27 #[.string s] w fun r w' => r = .returned (.string s) ∧ Below w.heap.size w w' := by
  go_enter Try.func27, Try.ntmps27
  go_wp2_with (go_at_call 32; (with_reducible refine (litClone_any s hs _).mono ?_); rintro r w1 ⟨rfl, hb⟩)
  go_ret
  exact ⟨rfl, hb⟩
end Go.Proofs.Ytacanobhfebnaaa
