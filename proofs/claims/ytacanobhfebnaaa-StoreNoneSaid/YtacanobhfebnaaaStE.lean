/-
  PACKAGE store: rows of slots; find, Get, Bytes, Len.
-/
import Derived.Test.YtacanobhfebnaaaStD
namespace Go.Proofs.Ytacanobhfebnaaa
open Go.RowKit
open St

/-- The slots' cells. -/
def scs : List Slt → List Value
  | [] => []
  | s :: L => .int .i64 s.st :: .int .i64 s.ct :: .string s.tx :: scs L
set_option maxRecDepth 100000 in
theorem scs_len (L : List Slt) : (scs L).length = L.length * 3 := by
  induction L with
  | nil => rfl
  | cons a L ih => simp only [scs, List.length_cons, ih]; omega
set_option maxRecDepth 100000 in
theorem scs_app (L M : List Slt) : scs (L ++ M) = scs L ++ scs M := by
  induction L with
  | nil => rfl
  | cons a L ih => simp only [List.cons_append, scs, ih]
set_option maxRecDepth 100000 in
theorem scs_get (L : List Slt) (i : Nat) (h : i < L.length) : (scs L)[i * 3]? = some (.int .i64 (gt L i).st) ∧ (scs L)[i * 3 + 1]? = some (.int .i64 (gt L i).ct) ∧ (scs L)[i * 3 + 2]? = some (.string (gt L i).tx) := by
  induction L generalizing i with
  | nil => simp at h
  | cons a L ih =>
    cases i with
    | zero => simp [scs, gt]
    | succ i =>
      have := ih i (by simpa using h)
      have e : gt (a :: L) (i + 1) = gt L i := by simp [gt]
      rw [e, show (i + 1) * 3 = i * 3 + 3 by omega]
      simpa [scs] using this
set_option maxRecDepth 100000 in
theorem scs_set (L : List Slt) (i : Nat) (h : i < L.length) (x y : Int) (t : ByteArray) :
    (scs L).set (i * 3) (.int .i64 x) = scs (L.set i ⟨x, (gt L i).ct, (gt L i).tx⟩) ∧ (scs L).set (i * 3 + 1) (.int .i64 y) = scs (L.set i ⟨(gt L i).st, y, (gt L i).tx⟩) ∧ (scs L).set (i * 3 + 2) (.string t) = scs (L.set i ⟨(gt L i).st, (gt L i).ct, t⟩) := by
  induction L generalizing i with
  | nil => simp at h
  | cons a L ih =>
    cases i with
    | zero => simp [scs, gt]
    | succ i =>
      have := ih i (by simpa using h)
      have e : gt (a :: L) (i + 1) = gt L i := by simp [gt]
      rw [e, show (i + 1) * 3 = i * 3 + 3 by omega]
      simpa [scs] using this

/-- The slice is a row of slots of the program's own. -/
structure Row3 (w : World) (A : Option Addr) (n c : Nat) (L : List Slt) : Prop where
  len : L.length = n
  row : w.ownsRow 0 46 3 (.slice A n c) n (scs L)
namespace Row3
variable {w w' : World} {A : Option Addr} {n c : Nat} {L : List Slt}
set_option maxRecDepth 100000 in
theorem nil (w : World) : Row3 w none 0 0 [] := ⟨rfl, World.ownsRow_nil _ _ _ _⟩
set_option maxRecDepth 100000 in
theorem bound (h : Row3 w A n c L) : n ≤ c ∧ c ≤ maxLen := by
  rcases h.row.2 with ⟨h0, h0'⟩ | ⟨g, cap, cur, hv, hbg, hg, h1, h2, _⟩
  · cases h0; exact ⟨Nat.le_refl _, Nat.zero_le _⟩
  · cases hv; exact ⟨h1, h2⟩
set_option maxRecDepth 100000 in
theorem some (h : Row3 w A n c L) (hn : 0 < n) : ∃ g, A = Option.some ⟨g, 0, none⟩ ∧ g < w.heap.size := by
  rcases h.row.2 with ⟨_, h0⟩ | ⟨g, cap, cur, hv, _, hg, _⟩
  · omega
  · cases hv
    exact ⟨g, rfl, (Array.getElem?_eq_some_iff.1 hg).1⟩
set_option maxRecDepth 100000 in
theorem lt (h : Row3 w A n c L) {k : Nat} (hk : A.map (·.block) = Option.some k) : k < w.heap.size := by
  rcases h.row.2 with ⟨h0, _⟩ | ⟨g, cap, cur, hv, _, hg, _⟩
  · cases h0; cases hk
  · cases hv
    cases hk
    exact (Array.getElem?_eq_some_iff.1 hg).1
set_option maxRecDepth 100000 in
theorem ty (h : Row3 w A n c L) {k : Nat} (hk : A.map (·.block) = Option.some k) : ∃ cur, w.heap[k]? = Option.some (.cells cur 46 (0, 0)) := by
  rcases h.row.2 with ⟨h0, _⟩ | ⟨g, cap, cur, hv, _, hg, _⟩
  · cases h0; cases hk
  · cases hv
    cases hk
    exact ⟨cur, hg⟩
set_option maxRecDepth 100000 in
theorem chg {K : Nat → Prop} (h : Row3 w A n c L) (hc : Chg K w w') (hk : ∀ k, A.map (·.block) = Option.some k → ¬ K k) : Row3 w' A n c L := by
  refine ⟨h.len, h.row.1, ?_⟩
  rcases h.row.2 with h0 | ⟨g, cap, cur, hv, hb, hg, rest⟩
  · exact .inl h0
  · refine .inr ⟨g, cap, cur, hv, hb, ?_, rest⟩
    cases hv
    exact (hc.block g (Array.getElem?_eq_some_iff.1 hg).1 (hk g rfl)).trans hg
variable {g : Nat}
set_option maxRecDepth 100000 in
theorem el (h : Row3 w (Option.some ⟨g, 0, none⟩) n c L) {i : Nat} (hi : i < n) : w.cell? ⟨g, i * 3, none⟩ = Option.some (.int .i64 (gt L i).st) ∧ w.cell? ⟨g, i * 3 + 1, none⟩ = Option.some (.int .i64 (gt L i).ct) ∧ w.cell? ⟨g, i * 3 + 2, none⟩ = Option.some (.string (gt L i).tx) := by
  obtain ⟨h1, h2, h3⟩ := scs_get L i (by rw [h.len]; exact hi)
  rw [World.ownsRow.cellAt h.row _ (by omega), World.ownsRow.cellAt h.row _ (by omega), World.ownsRow.cellAt h.row _ (by omega)]
  exact ⟨h1, h2, h3⟩
set_option maxRecDepth 100000 in
theorem fz (h : Row3 w (Option.some ⟨g, 0, none⟩) n c L) (i : Nat) : w.frozen? ⟨g, i, none⟩ = false := World.ownsRow.frozenAt h.row i
set_option maxRecDepth 100000 in
theorem put0 (h : Row3 w (Option.some ⟨g, 0, none⟩) n c L) {i : Nat} (hi : i < n) (x : Int) : Row3 (w.setCell ⟨g, i * 3, none⟩ (.int .i64 x)) (Option.some ⟨g, 0, none⟩) n c (L.set i ⟨x, (gt L i).ct, (gt L i).tx⟩) := by
  refine ⟨by rw [List.length_set]; exact h.len, ?_⟩
  rw [← (scs_set L i (by rw [h.len]; exact hi) x 0 ⟨#[]⟩).1]
  exact (World.ownsRow.stored h.row _ _).1
set_option maxRecDepth 100000 in
theorem put1 (h : Row3 w (Option.some ⟨g, 0, none⟩) n c L) {i : Nat} (hi : i < n) (x : Int) : Row3 (w.setCell ⟨g, i * 3 + 1, none⟩ (.int .i64 x)) (Option.some ⟨g, 0, none⟩) n c (L.set i ⟨(gt L i).st, x, (gt L i).tx⟩) := by
  refine ⟨by rw [List.length_set]; exact h.len, ?_⟩
  rw [← (scs_set L i (by rw [h.len]; exact hi) 0 x ⟨#[]⟩).2.1]
  exact (World.ownsRow.stored h.row _ _).1
set_option maxRecDepth 100000 in
theorem put2 (h : Row3 w (Option.some ⟨g, 0, none⟩) n c L) {i : Nat} (hi : i < n) (t : ByteArray) : Row3 (w.setCell ⟨g, i * 3 + 2, none⟩ (.string t)) (Option.some ⟨g, 0, none⟩) n c (L.set i ⟨(gt L i).st, (gt L i).ct, t⟩) := by
  refine ⟨by rw [List.length_set]; exact h.len, ?_⟩
  rw [← (scs_set L i (by rw [h.len]; exact hi) 0 0 t).2.2]
  exact (World.ownsRow.stored h.row _ _).1
end Row3

/-- A store: its variable, its slots, its free slots. -/
structure Sto (w : World) (S : Nat) (L : List Slt) (A : Option Addr) (c : Nat) (F : Option Addr) (m e : Nat) (d : Nat → Nat) (b : Int) : Prop where
  fre : Fre w S (.slice A L.length c) (.int .i64 b) F m e d
  row : Row3 w A L.length c L
namespace Sto
variable {w w' : World} {S : Nat} {L : List Slt} {A F : Option Addr} {c m e : Nat} {d : Nat → Nat} {b : Int}
set_option maxRecDepth 100000 in
theorem neA (h : Sto w S L A c F m e d b) : A.map (·.block) ≠ some S := by
  intro hk
  obtain ⟨cur, hg⟩ := h.row.ty hk
  rw [h.fre.blk] at hg
  injection hg with hg
  injection hg with _ hg
  exact absurd hg (by decide)
set_option maxRecDepth 100000 in
theorem neF (h : Sto w S L A c F m e d b) : F.map (·.block) ≠ some S := by
  have := h.fre.ne
  rwa [own_of] at this
set_option maxRecDepth 100000 in
theorem neAF (h : Sto w S L A c F m e d b) {k : Nat} (hk : A.map (·.block) = some k) : F.map (·.block) ≠ some k := by
  intro hk2
  obtain ⟨cur, hg⟩ := h.row.ty hk
  rcases h.fre.row.2 with ⟨h0, _⟩ | ⟨g, cap, cur, hv, _, hg2, _⟩
  · cases h0; cases hk2
  · cases hv
    cases hk2
    rw [hg] at hg2
    injection hg2 with hg2
    injection hg2 with _ hg2
    exact absurd hg2 (by decide)
end Sto

set_option maxRecDepth 100000 in
theorem err_cases (L : List Slt) (slot stamp : Int) :
    (err L slot stamp = 4 ∧ (slot < 0 ∨ (L.length : Int) ≤ slot ∨ ∃ i : Nat, slot = (i : Int) ∧ i < L.length ∧ (gt L i).ct = 0)) ∨
    (err L slot stamp = 6 ∧ ∃ i : Nat, slot = (i : Int) ∧ i < L.length ∧ (gt L i).ct ≠ 0 ∧ (gt L i).st ≠ stamp) ∨
    (err L slot stamp = 0 ∧ ∃ i : Nat, slot = (i : Int) ∧ i < L.length ∧ (gt L i).ct ≠ 0 ∧ (gt L i).st = stamp) := by
  unfold err
  by_cases h1 : slot < 0
  · rw [if_pos (.inl h1)]; exact .inl ⟨rfl, .inl h1⟩
  · by_cases h2 : (L.length : Int) ≤ slot
    · rw [if_pos (.inr (.inl h2))]; exact .inl ⟨rfl, .inr (.inl h2)⟩
    · obtain ⟨i, rfl⟩ : ∃ i : Nat, slot = (i : Int) := ⟨slot.toNat, by omega⟩
      rw [show ((i : Int)).toNat = i by omega]
      have hi : i < L.length := by omega
      by_cases h3 : (gt L i).ct = 0
      · rw [if_pos (.inr (.inr h3))]; exact .inl ⟨rfl, .inr (.inr ⟨i, rfl, hi, h3⟩)⟩
      · rw [if_neg (by rintro (h | h | h); exact h1 h; exact h2 h; exact h3 h)]
        by_cases h4 : (gt L i).st = stamp
        · rw [if_pos h4]; exact .inr (.inr ⟨rfl, i, rfl, hi, h3, h4⟩)
        · rw [if_neg h4]; exact .inr (.inl ⟨rfl, i, rfl, hi, h3, h4⟩)

set_option maxRecDepth 100000 in
set_option maxRecDepth 100000 in
set_option maxHeartbeats 2000000 in
theorem find_bad {w : World} {S : Nat} {L : List Slt} {A F : Option Addr} {c m e : Nat} {d : Nat → Nat} {b : Int} (h : Sto w S L A c F m e d b) (hn : L.length ≤ 100000) (slot stamp : Int) (he : err L slot stamp ≠ 0) :
    Calls Try.prog 28 #[.pointer (some ⟨S, 0, none⟩), .int .i64 slot, .int .i64 stamp] w fun r w' => r = .returned (.tuple #[.pointer none, .int .i64 (err L slot stamp)]) ∧ w = w' := by
  have x0 := h.fre.c0
  have hr := h.row
  have hE := Lib.hid (err_cases L slot stamp)
  clear h
  rcases hE.out with ⟨h1, h2 | h2 | ⟨i, rfl, hi, h2⟩⟩ | ⟨h1, i, rfl, hi, h2, h3⟩ | ⟨h1, _⟩
  · have hd : decide (slot < 0) = true := decide_eq_true h2
    have h1 := Lib.hid h1
    clear he hE
    go_enter Try.func28, Try.ntmps28
    go_wp2
    go_ret2
    exact ⟨by rw [h1.out]; rfl, rfl⟩
  · have hd : decide (slot < 0) = false := decide_eq_false (by omega)
    have hd2 : decide ((L.length : Int) ≤ slot) = true := decide_eq_true h2
    have h1 := Lib.hid h1
    clear he hE
    go_enter Try.func28, Try.ntmps28
    go_wp2
    go_ret2
    exact ⟨by rw [h1.out]; rfl, rfl⟩
  · obtain ⟨g, rfl, _⟩ := hr.some (by omega)
    obtain ⟨y0, y1, y2⟩ := hr.el hi
    rw [h2] at y1
    have hd2 : decide ((L.length : Int) ≤ (i : Int)) = false := decide_eq_false (by omega)
    have h1 := Lib.hid h1
    clear he hE h2
    go_enter Try.func28, Try.ntmps28
    go_wp2
    go_ret2
    exact ⟨by rw [h1.out]; rfl, rfl⟩
  · obtain ⟨g, rfl, _⟩ := hr.some (by omega)
    obtain ⟨y0, y1, y2⟩ := hr.el hi
    have hd2 : decide ((L.length : Int) ≤ (i : Int)) = false := decide_eq_false (by omega)
    have hd3 : ((gt L i).ct == 0) = false := beq_eq_false_iff_ne.2 h2
    have hd4 : ((gt L i).st != stamp) = true := bne_iff_ne.2 h3
    have h1 := Lib.hid h1
    clear he hE
    go_enter Try.func28, Try.ntmps28
    go_wp2
    go_ret2
    exact ⟨by rw [h1.out]; rfl, rfl⟩
  · exact absurd h1 he

set_option maxRecDepth 100000 in
set_option maxRecDepth 100000 in
set_option maxHeartbeats 2000000 in
theorem find_ok {w : World} {S : Nat} {L : List Slt} {g : Nat} {F : Option Addr} {c m e : Nat} {d : Nat → Nat} {b : Int} (h : Sto w S L (some ⟨g, 0, none⟩) c F m e d b) (i : Nat) (stamp : Int) (hi : i < L.length) (h2 : (gt L i).ct ≠ 0) (h3 : (gt L i).st = stamp) :
    Calls Try.prog 28 #[.pointer (some ⟨S, 0, none⟩), .int .i64 (i : Int), .int .i64 stamp] w fun r w' => r = .returned (.tuple #[.pointer (some ⟨g, i * 3, none⟩), .int .i64 0]) ∧ w = w' := by
  have x0 := h.fre.c0
  have hr := h.row
  clear h
  obtain ⟨y0, y1, y2⟩ := hr.el hi
  have hd2 : decide ((L.length : Int) ≤ (i : Int)) = false := decide_eq_false (by omega)
  have hd3 : ((gt L i).ct == 0) = false := beq_eq_false_iff_ne.2 h2
  have hd4 : ((gt L i).st != stamp) = false := by rw [h3]; simp
  clear h3 hr
  go_enter Try.func28, Try.ntmps28
  go_wp2
  go_ret2
  exact ⟨rfl, rfl⟩

/-- What Get tells. -/
def getL (L : List Slt) (slot stamp : Int) : ByteArray := if err L slot stamp = 0 then (gt L slot.toNat).tx else ⟨#[]⟩

set_option maxRecDepth 100000 in
set_option maxRecDepth 100000 in
set_option maxHeartbeats 2000000 in
theorem get_any {w : World} {S : Nat} {L : List Slt} {A F : Option Addr} {c m e : Nat} {d : Nat → Nat} {b : Int} (h : Sto w S L A c F m e d b) (hn : L.length ≤ 100000) (slot stamp : Int) :
    Calls Try.prog 16 #[.pointer (some ⟨S, 0, none⟩), .int .i64 slot, .int .i64 stamp] w fun r w' => r = .returned (.tuple #[.string (getL L slot stamp), .int .i64 (err L slot stamp)]) ∧ w = w' := by
  unfold getL
  rcases err_cases L slot stamp with ⟨h1, _⟩ | ⟨h1, _⟩ | ⟨h1, i, rfl, hi, h2, h3⟩
  · have hf := find_bad h hn slot stamp (by omega)
    rw [h1] at hf ⊢
    have hf := Lib.hid hf
    clear h h1
    go_enter Try.func16, Try.ntmps16
    go_wp2_with (go_at_call 28; (with_reducible refine hf.out.mono ?_); rintro r w1 ⟨rfl, rfl⟩)
    go_ret2
    exact ⟨rfl, rfl⟩
  · have hf := find_bad h hn slot stamp (by omega)
    rw [h1] at hf ⊢
    have hf := Lib.hid hf
    clear h h1
    go_enter Try.func16, Try.ntmps16
    go_wp2_with (go_at_call 28; (with_reducible refine hf.out.mono ?_); rintro r w1 ⟨rfl, rfl⟩)
    go_ret2
    exact ⟨rfl, rfl⟩
  · obtain ⟨g, rfl, _⟩ := h.row.some (by omega)
    have hf := Lib.hid (find_ok h i stamp hi h2 h3)
    obtain ⟨_, _, y2⟩ := h.row.el hi
    rw [h1, if_pos rfl, show ((i : Int)).toNat = i by omega]
    clear h h1 h2 h3
    go_enter Try.func16, Try.ntmps16
    go_wp2_with (go_at_call 28; (with_reducible refine hf.out.mono ?_); rintro r w1 ⟨rfl, rfl⟩)
    go_ret2
    exact ⟨rfl, rfl⟩

set_option maxRecDepth 100000 in
set_option maxRecDepth 100000 in
theorem bytes_any {w : World} {S : Nat} {v1 v3 : Value} {F : Option Addr} {m e : Nat} {d : Nat → Nat} (h : Fre w S v1 v3 F m e d) :
    Calls Try.prog 19 #[.pointer (some ⟨S, 0, none⟩)] w fun r w' => r = .returned v3 ∧ w = w' := by
  have x2 := h.c2
  clear h
  go_enter Try.func19, Try.ntmps19
  go_wp2
  go_ret
  exact ⟨rfl, rfl⟩

set_option maxRecDepth 100000 in
set_option maxRecDepth 100000 in
set_option maxHeartbeats 2000000 in
theorem lenStore_any {w : World} {S : Nat} {A : Option Addr} {n c : Nat} {v3 : Value} {F : Option Addr} {m e : Nat} {d : Nat → Nat} (h : Fre w S (.slice A n c) v3 F m e d) (k : Nat) (hk : m + k = n) (hn : n ≤ 100000) :
    Calls Try.prog 21 #[.pointer (some ⟨S, 0, none⟩)] w fun r w' => r = .returned (.int .i64 (k : Int)) ∧ ∃ q, w' = w.drewN q := by
  have x0 := h.c0
  have x1 := h.c1
  have hE : (n : Int) - (m : Int) = (k : Int) := by omega
  clear h hk
  go_enter Try.func21, Try.ntmps21
  go_wp2_with fail
  go_quiet (fail)
  go_wp2
  go_ret
  exact ⟨rfl, _, rfl⟩
end Go.Proofs.Ytacanobhfebnaaa
