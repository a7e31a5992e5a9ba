/-
  PACKAGE store: New, Get, Slots, Bytes, Len; no store.
-/
import Derived.Test.YtacanobhfebnaaaStI
import Derived.Lib.SliceRun
namespace Go.Proofs.Ytacanobhfebnaaa
open Go.RowKit
open St

set_option maxRecDepth 100000 in
set_option maxRecDepth 100000 in
theorem new_any (w : World) :
    Calls Try.prog 9 #[] w fun r w' => r = .returned (.pointer (some ⟨w.heap.size, 0, none⟩)) ∧ Str w' (fun k => k = w.heap.size) w.heap.size [] ∧ Below w.heap.size w w' ∧ w'.heap.size = w.heap.size + 1 := by
  go_enter Try.func9, Try.ntmps9
  go_wp2
  go_ret
  refine ⟨rfl, ⟨none, 0, none, 0, 0, fun _ => 0, ⟨⟨heap_alloc_new w _, World.ownsRow_nil _ _ _ _⟩, Row3.nil _⟩, Inv.nil _, ?_, ?_⟩, (Below.refl _ w).alloc (Nat.le_refl _) _, by simp⟩
  · rintro k (h | h | h)
    · cases h
    · exact h
    · cases h
  · rintro k rfl
    simp

set_option maxRecDepth 100000 in
theorem getS_any {w : World} {K : Nat → Prop} {S : Nat} {L : List Slt} (h : Str w K S L) (hn : L.length ≤ 100000) (slot stamp : Int) :
    Calls Try.prog 16 #[.pointer (some ⟨S, 0, none⟩), .int .i64 slot, .int .i64 stamp] w fun r w' => r = .returned (.tuple #[.string (getL L slot stamp), .int .i64 (err L slot stamp)]) ∧ w = w' := by
  obtain ⟨A, c, F, m, e, d, hs, _⟩ := h
  exact get_any hs hn slot stamp
set_option maxRecDepth 100000 in
theorem bytesS_any {w : World} {K : Nat → Prop} {S : Nat} {L : List Slt} (h : Str w K S L) :
    Calls Try.prog 19 #[.pointer (some ⟨S, 0, none⟩)] w fun r w' => r = .returned (.int .i64 (sumb L : Int)) ∧ w = w' := by
  obtain ⟨A, c, F, m, e, d, hs, _⟩ := h
  exact bytes_any hs.fre
set_option maxRecDepth 100000 in
theorem lenS_any {w : World} {K : Nat → Prop} {S : Nat} {L : List Slt} (h : Str w K S L) (hn : L.length ≤ 100000) :
    Calls Try.prog 21 #[.pointer (some ⟨S, 0, none⟩)] w fun r w' => r = .returned (.int .i64 (usd L : Int)) ∧ ∃ q, w' = w.drewN q := by
  obtain ⟨A, c, F, m, e, d, hs, hi, _⟩ := h
  exact lenStore_any hs.fre (usd L) hi.cnt hn

/-- A copy of slots. -/
def CpP (w : World) (L : List Slt) (n : Nat) (r : Ending) (w' : World) : Prop :=
  ∃ A' c', r = .returned (.slice A' n c') ∧ Row3 w' A' n c' L ∧ Below w.heap.size w w' ∧ ∀ k, A'.map (·.block) = some k → w.heap.size ≤ k

set_option maxRecDepth 100000 in
set_option maxRecDepth 100000 in
set_option maxHeartbeats 2000000 in
theorem cloneSlots_any {w : World} {A : Option Addr} {n c : Nat} {L : List Slt} (h : Row3 w A n c L) (hn : n ≤ 100000) :
    Calls Try.prog 30 #[.slice A n c] w (CpP w L n) := by
  have qT : ∀ (w : World) (a : Option Addr) (n c n' c' : Nat), (binOp .eql 28 (.slice a n c) (.slice none n' c')).run Try.prog w = .ok (.bool a.isNone) w := fun w a n c n' c' => Lib.run_eql_slice_nil w _ _ a n c n' c' und_slots
  rcases h.row.2 with ⟨h0, h1⟩ | ⟨g, cap, cur, hv, _, hg, _⟩
  · cases h0
    have hl : L = [] := List.eq_nil_of_length_eq_zero (by rw [h.len])
    subst hl
    go_enter Try.func30, Try.ntmps30
    go_wp2
    go_ret
    exact ⟨none, 0, rfl, Row3.nil _, Below.refl _ _, fun k hk => by cases hk⟩
  · cases hv
    have hd : Chg (fun _ => False) w (w.alloc (.cells #[] 46)) := .below ((Below.refl _ w).alloc (Nat.le_refl _) _)
    have hh := h.chg hd (fun _ _ h => h)
    have h0 : Row3 (w.alloc (.cells #[] 46)) (some ⟨w.heap.size, 0, none⟩) 0 0 [] := ⟨rfl, World.ownsRow_lit w #[] 0 (Nat.zero_le _) (Nat.zero_le _) rfl⟩
    obtain ⟨A', c', w', hrun, ho, hg', hloc⟩ := h0.app (Nat.zero_le _) g n c L h.len hn (fun j u hu => by
      have hj : j < n * 3 := by
        have h1 := (List.getElem?_eq_some_iff.1 hu).1
        rw [scs_len, h.len] at h1
        exact h1
      rw [World.ownsRow.cellAt hh.row j hj]
      exact hu) 28
    rw [Nat.zero_add, List.nil_append] at ho
    rw [Nat.zero_add] at hrun
    have HR := Lib.hid hrun
    have HO := Lib.hid ho
    have HB : Hid (Below w.heap.size w w') := Lib.hid (((Below.refl _ w).alloc (Nat.le_refl _) _).grown hg' (by simp) (fun k hk => by cases hk; exact Nat.le_refl _))
    have HL : Hid (∀ k, A'.map (·.block) = some k → w.heap.size ≤ k) := Lib.hid (fun k hk => by
      rcases hloc k hk with e | e
      · cases e; exact Nat.le_refl _
      · simp at e; omega)
    clear hrun ho hloc hg' h0 hh hd h
    go_enter Try.func30, Try.ntmps30
    go_wp2_with (at_builtin; refine wpApp rfl _ _ _ rfl _ _ _ rfl rfl HR.out ?_)
    go_ret
    exact ⟨A', c', rfl, HO.out, HB.out, HL.out⟩

set_option maxRecDepth 100000 in
set_option maxRecDepth 100000 in
theorem slots_any {w : World} {K : Nat → Prop} {S : Nat} {L : List Slt} (h : Str w K S L) (hn : L.length ≤ 100000) :
    Calls Try.prog 18 #[.pointer (some ⟨S, 0, none⟩)] w (CpP w L L.length) := by
  obtain ⟨A, c, F, m, e, d, hs, _⟩ := h
  have x0 := hs.fre.c0
  have HC := Lib.hid (cloneSlots_any hs.row hn)
  clear hs
  go_enter Try.func18, Try.ntmps18
  go_wp2_with (go_at_call 30; (with_reducible refine HC.out.mono ?_); rintro r w1 ⟨A', c', rfl, k1, k2, k3⟩; replace k1 := Lib.hid k1; replace k2 := Lib.hid k2; replace k3 := Lib.hid k3)
  go_ret
  exact ⟨A', c', rfl, k1.out, k2.out, k3.out⟩

section
set_option maxRecDepth 100000
set_option maxRecDepth 100000 in
theorem put_nil (b : ByteArray) (w : World) : Calls Try.prog 10 #[.pointer none, .string b] w fun r w' => r = .returned (.tuple #[.int .i64 0, .int .i64 0, .int .i64 1]) ∧ w = w' := by
  go_enter Try.func10, Try.ntmps10
  go_wp2
  go_ret3
  exact ⟨rfl, rfl⟩
set_option maxRecDepth 100000 in
theorem find_nil (x y : Int) (w : World) : Calls Try.prog 28 #[.pointer none, .int .i64 x, .int .i64 y] w fun r w' => r = .returned (.tuple #[.pointer none, .int .i64 1]) ∧ w = w' := by
  go_enter Try.func28, Try.ntmps28
  go_wp2
  go_ret2
  exact ⟨rfl, rfl⟩
set_option maxRecDepth 100000 in
theorem get_nil (x y : Int) (w : World) : Calls Try.prog 16 #[.pointer none, .int .i64 x, .int .i64 y] w fun r w' => r = .returned (.tuple #[.string ⟨#[]⟩, .int .i64 1]) ∧ w = w' := by
  go_enter Try.func16, Try.ntmps16
  go_wp2_with (go_at_call 28; (with_reducible refine (find_nil _ _ _).mono ?_); rintro r w1 ⟨rfl, rfl⟩)
  go_ret2
  exact ⟨rfl, rfl⟩
set_option maxRecDepth 100000 in
theorem inc_nil (x y : Int) (w : World) : Calls Try.prog 13 #[.pointer none, .int .i64 x, .int .i64 y] w fun r w' => r = .returned (.int .i64 1) ∧ w = w' := by
  go_enter Try.func13, Try.ntmps13
  go_wp2_with (go_at_call 28; (with_reducible refine (find_nil _ _ _).mono ?_); rintro r w1 ⟨rfl, rfl⟩)
  go_ret
  exact ⟨rfl, rfl⟩
set_option maxRecDepth 100000 in
theorem dec_nil (x y : Int) (w : World) : Calls Try.prog 15 #[.pointer none, .int .i64 x, .int .i64 y] w fun r w' => r = .returned (.int .i64 1) ∧ w = w' := by
  go_enter Try.func15, Try.ntmps15
  go_wp2_with (go_at_call 28; (with_reducible refine (find_nil _ _ _).mono ?_); rintro r w1 ⟨rfl, rfl⟩)
  go_ret
  exact ⟨rfl, rfl⟩
set_option maxRecDepth 100000 in
theorem slots_nil (w : World) : Calls Try.prog 18 #[.pointer none] w fun r w' => r = .returned (.slice none 0 0) ∧ w = w' := by
  go_enter Try.func18, Try.ntmps18
  go_wp2
  go_ret
  exact ⟨rfl, rfl⟩
set_option maxRecDepth 100000 in
theorem bytes_nil (w : World) : Calls Try.prog 19 #[.pointer none] w fun r w' => r = .returned (.int .i64 0) ∧ w = w' := by
  go_enter Try.func19, Try.ntmps19
  go_wp2
  go_ret
  exact ⟨rfl, rfl⟩
set_option maxRecDepth 100000 in
theorem len_nil (w : World) : Calls Try.prog 21 #[.pointer none] w fun r w' => r = .returned (.int .i64 0) ∧ w = w' := by
  go_enter Try.func21, Try.ntmps21
  go_wp2
  go_ret
  exact ⟨rfl, rfl⟩
end
end Go.Proofs.Ytacanobhfebnaaa
