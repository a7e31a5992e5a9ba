/-
  THE REFERENCE's ARENA in memory: New, Used, room, Charge, Back.
-/
import Derived.Test.YtmgikdkcdihdlaaAnE
import Derived.Maps.AppendAt
namespace Go.Proofs.Ytmgikdkcdihdlaa
open Go.RowKit
open An

/-- The regions' cells. -/
def rcs : List (Int × Int) → List Value
  | [] => []
  | p :: L => .int .i64 p.1 :: .int .i64 p.2 :: rcs L
def rg (L : List (Int × Int)) (i : Nat) : Int × Int := L.getD i (0, 0)
set_option maxRecDepth 100000 in
theorem rcs_len (L : List (Int × Int)) : (rcs L).length = L.length * 2 := by
  induction L with
  | nil => rfl
  | cons a L ih => simp only [rcs, List.length_cons, ih]; omega
set_option maxRecDepth 100000 in
theorem rcs_app (L M : List (Int × Int)) : rcs (L ++ M) = rcs L ++ rcs M := by
  induction L with
  | nil => rfl
  | cons a L ih => simp only [List.cons_append, rcs, ih]
set_option maxRecDepth 100000 in
theorem rcs_get (L : List (Int × Int)) (i : Nat) (h : i < L.length) : (rcs L)[i * 2]? = some (.int .i64 (rg L i).1) ∧ (rcs L)[i * 2 + 1]? = some (.int .i64 (rg L i).2) := by
  induction L generalizing i with
  | nil => simp at h
  | cons a L ih =>
    cases i with
    | zero => simp [rcs, rg]
    | succ i =>
      have := ih i (by simpa using h)
      have e : rg (a :: L) (i + 1) = rg L i := by simp [rg]
      rw [e, show (i + 1) * 2 = i * 2 + 2 by omega]
      simpa [rcs] using this
set_option maxRecDepth 100000 in
theorem rcs_one (L : List (Int × Int)) : ∀ u ∈ rcs L, u.oneCell' = true := by
  induction L with
  | nil => intro u h; simp [rcs] at h
  | cons a L ih =>
    intro u h
    simp only [rcs, List.mem_cons] at h
    rcases h with rfl | rfl | h
    · rfl
    · rfl
    · exact ih u h
set_option maxRecDepth 100000 in
theorem rg_mem {L : List (Int × Int)} {i : Nat} (h : i < L.length) : rg L i ∈ L := by
  have e : rg L i = L[i] := by simp [rg, h]
  rw [e]
  exact List.getElem_mem h
set_option maxRecDepth 100000 in
theorem rg_take (L : List (Int × Int)) (k : Nat) (h : k < L.length) : sumn (L.take (k + 1)) = sumn (L.take k) + (rg L k).2 := by
  have e : L.take (k + 1) = L.take k ++ [rg L k] := by
    rw [List.take_add_one, List.getElem?_eq_getElem h]
    simp [rg, h]
  rw [e, sumn_snoc]

/-- The slice is a row of regions of the program's own. -/
structure Row2 (w : World) (A : Option Addr) (n c : Nat) (L : List (Int × Int)) : Prop where
  len : L.length = n
  row : w.ownsRow 0 52 2 (.slice A n c) n (rcs L)
namespace Row2
variable {w w' : World} {A : Option Addr} {n c : Nat} {L : List (Int × Int)}
set_option maxRecDepth 100000 in
theorem nil (w : World) : Row2 w none 0 0 [] := ⟨rfl, World.ownsRow_nil _ _ _ _⟩
set_option maxRecDepth 100000 in
theorem bound (h : Row2 w A n c L) : n ≤ c ∧ c ≤ maxLen := by
  rcases h.row.2 with ⟨h0, h0'⟩ | ⟨g, cap, cur, hv, hbg, hg, h1, h2, _⟩
  · cases h0; exact ⟨Nat.le_refl _, Nat.zero_le _⟩
  · cases hv; exact ⟨h1, h2⟩
set_option maxRecDepth 100000 in
theorem some (h : Row2 w A n c L) (hn : 0 < n) : ∃ g, A = Option.some ⟨g, 0, none⟩ ∧ g < w.heap.size := by
  rcases h.row.2 with ⟨_, h0⟩ | ⟨g, cap, cur, hv, _, hg, _⟩
  · omega
  · cases hv
    exact ⟨g, rfl, (Array.getElem?_eq_some_iff.1 hg).1⟩
set_option maxRecDepth 100000 in
theorem form (h : Row2 w A n c L) : (A = none ∧ n = 0 ∧ c = 0) ∨ ∃ g, A = Option.some ⟨g, 0, none⟩ := by
  rcases h.row.2 with ⟨h0, h0'⟩ | ⟨g, cap, cur, hv, _, hg, _⟩
  · cases h0; exact .inl ⟨rfl, rfl, rfl⟩
  · cases hv
    exact .inr ⟨g, rfl⟩
set_option maxRecDepth 100000 in
theorem ty (h : Row2 w A n c L) {k : Nat} (hk : A.map (·.block) = Option.some k) : ∃ cur, w.heap[k]? = Option.some (.cells cur 52 (0, 0)) := by
  rcases h.row.2 with ⟨h0, _⟩ | ⟨g, cap, cur, hv, _, hg, _⟩
  · cases h0; cases hk
  · cases hv
    cases hk
    exact ⟨cur, hg⟩
set_option maxRecDepth 100000 in
theorem chg {K : Nat → Prop} (h : Row2 w A n c L) (hc : Chg K w w') (hk : ∀ k, A.map (·.block) = Option.some k → ¬ K k) : Row2 w' A n c L := by
  refine ⟨h.len, h.row.1, ?_⟩
  rcases h.row.2 with h0 | ⟨g, cap, cur, hv, hb, hg, rest⟩
  · exact .inl h0
  · refine .inr ⟨g, cap, cur, hv, hb, ?_, rest⟩
    cases hv
    exact (hc.block g (Array.getElem?_eq_some_iff.1 hg).1 (hk g rfl)).trans hg
variable {g : Nat}
set_option maxRecDepth 100000 in
theorem el (h : Row2 w (Option.some ⟨g, 0, none⟩) n c L) {i : Nat} (hi : i < n) : w.cell? ⟨g, i * 2, none⟩ = Option.some (.int .i64 (rg L i).1) ∧ w.cell? ⟨g, i * 2 + 1, none⟩ = Option.some (.int .i64 (rg L i).2) := by
  obtain ⟨h1, h2⟩ := rcs_get L i (by rw [h.len]; exact hi)
  rw [World.ownsRow.cellAt h.row _ (by omega), World.ownsRow.cellAt h.row _ (by omega)]
  exact ⟨h1, h2⟩
end Row2

/-- The reference's arena: its variable, its regions. -/
structure RAr (w : World) (R : Nat) (s : Ars) (A : Option Addr) (c : Nat) : Prop where
  blk : w.heap[R]? = some (.cells #[.int .i64 s.bud, .int .i64 (s.beh + 1), .int .i64 s.chg, .slice A s.L.length c] 42 (0, 0))
  row : Row2 w A s.L.length c s.L
namespace RAr
variable {w w' : World} {R : Nat} {s : Ars} {A : Option Addr} {c : Nat}
set_option maxRecDepth 100000 in
theorem lt (h : RAr w R s A c) : R < w.heap.size := (Array.getElem?_eq_some_iff.1 h.blk).1
set_option maxRecDepth 100000 in
theorem c0 (h : RAr w R s A c) : w.cell? ⟨R, 0, none⟩ = some (.int .i64 s.bud) := by rw [cell_of_row w R 0 _ _ (0, 0) h.blk]; rfl
set_option maxRecDepth 100000 in
theorem c1 (h : RAr w R s A c) : w.cell? ⟨R, 1, none⟩ = some (.int .i64 (s.beh + 1)) := by rw [cell_of_row w R 1 _ _ (0, 0) h.blk]; rfl
set_option maxRecDepth 100000 in
theorem c2 (h : RAr w R s A c) : w.cell? ⟨R, 2, none⟩ = some (.int .i64 s.chg) := by rw [cell_of_row w R 2 _ _ (0, 0) h.blk]; rfl
set_option maxRecDepth 100000 in
theorem c3 (h : RAr w R s A c) : w.cell? ⟨R, 3, none⟩ = some (.slice A s.L.length c) := by rw [cell_of_row w R 3 _ _ (0, 0) h.blk]; rfl
set_option maxRecDepth 100000 in
theorem fz (h : RAr w R s A c) (i : Nat) : w.frozen? ⟨R, i, none⟩ = false := frozen_of_row w R i _ _ h.blk
set_option maxRecDepth 100000 in
theorem neA (h : RAr w R s A c) : A.map (·.block) ≠ some R := by
  intro hk
  obtain ⟨cur, hg⟩ := h.row.ty hk
  rw [h.blk] at hg
  injection hg with hg
  injection hg with _ hg
  exact absurd hg (by decide)
set_option maxRecDepth 100000 in
theorem chg {K : Nat → Prop} (h : RAr w R s A c) (hc : Chg K w w') (h1 : ¬ K R) (h2 : ∀ k, A.map (·.block) = some k → ¬ K k) : RAr w' R s A c := ⟨(hc.block R h.lt h1).trans h.blk, h.row.chg hc h2⟩
set_option maxRecDepth 100000 in
theorem drewN (h : RAr w R s A c) (q : Nat) : RAr (w.drewN q) R s A c := ⟨h.blk, ⟨h.row.len, h.row.row⟩⟩
end RAr
def Rar (w : World) (R : Nat) (s : Ars) : Prop := ∃ A c, RAr w R s A c
set_option maxRecDepth 100000 in
theorem Rar.drewN {w : World} {R : Nat} {s : Ars} (h : Rar w R s) (q : Nat) : Rar (w.drewN q) R s := by
  obtain ⟨A, c, h⟩ := h
  exact ⟨A, c, h.drewN q⟩
set_option maxRecDepth 100000 in
theorem Rar.below {w w' : World} {R : Nat} {s : Ars} (h : Rar w R s) (hb : Below w.heap.size w w') : Rar w' R s := by
  obtain ⟨A, c, h⟩ := h
  exact ⟨A, c, h.chg (Chg.below (K := fun _ => False) hb) (fun h => h) (fun _ _ h => h)⟩
/-- What a call leaves that turns the reference's arena. -/
def RaP (w : World) (R : Nat) (s' : Ars) (w' : World) : Prop := Rar w' R s' ∧ Chg (fun k => k = R) w w'

set_option maxRecDepth 100000 in
set_option maxRecDepth 100000 in
theorem newR_any (n : Int) (hn : 0 ≤ n ∧ n ≤ 16777216) (w : World) :
    Calls Try.prog 8 #[.int .i64 n] w fun r w' => r = .returned (.pointer (some ⟨w.heap.size, 0, none⟩)) ∧ Rar w' w.heap.size ⟨n, 0, 0, []⟩ ∧ Below w.heap.size w w' ∧ w'.heap.size = w.heap.size + 1 := by
  have hd1 : decide (n < 0) = false := decide_eq_false (by omega)
  have hd2 : decide (16777216 < n) = false := decide_eq_false (by omega)
  go_enter Try.func8, Try.ntmps8
  go_wp2
  go_ret
  exact ⟨rfl, ⟨none, 0, heap_alloc_new w _, Row2.nil _⟩, (Below.refl _ w).alloc (Nat.le_refl _) _, by simp⟩
set_option maxRecDepth 100000 in
set_option maxRecDepth 100000 in
theorem newR_none (n : Int) (hn : n < 0 ∨ 16777216 < n) (w : World) :
    Calls Try.prog 8 #[.int .i64 n] w fun r w' => r = .returned (.pointer none) ∧ w = w' := by
  by_cases h1 : n < 0
  · have hd1 : decide (n < 0) = true := decide_eq_true h1
    go_enter Try.func8, Try.ntmps8
    go_wp2
    go_ret
    exact ⟨rfl, rfl⟩
  · have hd1 : decide (n < 0) = false := decide_eq_false h1
    have hd2 : decide (16777216 < n) = true := decide_eq_true (by omega)
    go_enter Try.func8, Try.ntmps8
    go_wp2
    go_ret
    exact ⟨rfl, rfl⟩

set_option maxRecDepth 100000 in
theorem sumn_takes {T : Int} {s : Ars} (hT : Ok T s) (k : Nat) : 0 ≤ sumn (s.L.take k) ∧ sumn (s.L.take k) ≤ T * 16777216 := by
  have h1 := sumn_bd (L := s.L.take k) (fun p hp => (hT.el p (List.mem_of_mem_take hp)).2)
  have h2 := hT.len
  have h3 : ((s.L.take k).length : Int) ≤ s.L.length := by rw [List.length_take]; omega
  omega

set_option maxRecDepth 100000 in
set_option maxRecDepth 100000 in
set_option maxHeartbeats 2000000 in
theorem usedR_any {w : World} {R : Nat} {s : Ars} {T : Int} (h : Rar w R s) (hT : Ok T s) (hT2 : T ≤ 1000) :
    Calls Try.prog 19 #[.pointer (some ⟨R, 0, none⟩)] w fun r w' => r = .returned (.int .i64 (sumn s.L + s.chg)) ∧ w = w' := by
  obtain ⟨A, c, h⟩ := h
  have x2 := h.c2
  have x3 := h.c3
  have hlen := hT.len
  have hch := hT.chg
  go_enter Try.func19, Try.ntmps19
  go_wp2_with fail
  go_loopw [3, 4] (fun y x w' => ∃ k : Nat, k ≤ s.L.length ∧ x = .int .i64 (k : Int) ∧ y = .int .i64 (s.chg + sumn (s.L.take k)) ∧ w = w') (fun _ x _ => s.L.length - (intOf x).toNat)
  case atStart => exact ⟨0, Nat.zero_le _, rfl, by simp [sumn], rfl⟩
  case round =>
    obtain ⟨k, hk, rfl, rfl, rfl⟩ := hrel
    by_cases hkl : k < s.L.length
    · obtain ⟨g, rfl, _⟩ := h.row.some (by omega)
      obtain ⟨y0, y1⟩ := h.row.el hkl
      have hs := sumn_takes hT k
      have hz := (hT.el _ (rg_mem hkl)).2
      have hS := Lib.hid (rg_take s.L k hkl)
      have hd1 : decide ((k : Int) < (s.L.length : Int)) = true := decide_eq_true (by omega)
      clear h hT
      generalize sumn (s.L.take k) = z at *
      have hw : -100000000000 ≤ s.chg + z + (rg s.L k).2 ∧ s.chg + z + (rg s.L k).2 ≤ 100000000000 := by omega
      go_wp2_with fail
      exact ⟨⟨k + 1, by omega, rfl, by rw [hS.out, Int.add_assoc], trivial⟩, by simp [intOf]; omega⟩
    · have e : k = s.L.length := by omega
      subst e
      have hd1 : decide ((s.L.length : Int) < (s.L.length : Int)) = false := decide_eq_false (by omega)
      rw [List.take_of_length_le (Nat.le_refl _)]
      clear h hT
      go_wp2
      go_ret
      exact ⟨by rw [Int.add_comm (sumn s.L) s.chg]; rfl, rfl⟩

/-- Is there room, as the reference asks? -/
def roomB (s : Ars) (n : Int) : Bool := (s.bud == 0) || decide (n ≤ s.bud - (sumn s.L + s.chg))

set_option maxRecDepth 100000 in
set_option maxRecDepth 100000 in
set_option maxHeartbeats 2000000 in
theorem roomR_any {w : World} {R : Nat} {s : Ars} {T : Int} (h : Rar w R s) (hT : Ok T s) (hT2 : T ≤ 1000) (n : Int) :
    Calls Try.prog 23 #[.pointer (some ⟨R, 0, none⟩), .int .i64 n] w fun r w' => r = .returned (.bool (roomB s n)) ∧ ∃ q, w' = w.drewN q := by
  have HU := Lib.hid (fun (q : Nat) => Calls.quiet_of_same (w := w) (n := q) ((usedR_any (h.drewN q) hT hT2).mono fun _ _ h => ⟨h.1, h.2.symm⟩))
  obtain ⟨A, c, h⟩ := h
  have x0 := h.c0
  have hb := hT.bud
  have hs := hT.sum
  have hc := hT.chg
  have hw : -100000000000 ≤ s.bud - (sumn s.L + s.chg) ∧ s.bud - (sumn s.L + s.chg) ≤ 100000000000 := by omega
  by_cases h1 : s.bud = 0
  · have hd : (s.bud == 0) = true := beq_iff_eq.2 h1
    have e : roomB s n = true := by unfold roomB; rw [hd]; rfl
    rw [e]
    clear h hT e h1
    go_enter Try.func23, Try.ntmps23
    go_wp2_with fail
    go_quiet (fail)
    go_wp2
    go_ret
    exact ⟨rfl, _, rfl⟩
  · have hd : (s.bud == 0) = false := beq_eq_false_iff_ne.2 h1
    have e : roomB s n = decide (n ≤ s.bud - (sumn s.L + s.chg)) := by unfold roomB; rw [hd]; rfl
    rw [e]
    clear h hT e h1
    go_enter Try.func23, Try.ntmps23
    go_wp2_with fail
    go_quiet (first | (go_at_call 19; with_reducible exact HU.out _))
    go_wp2
    go_ret
    exact ⟨rfl, _, rfl⟩
end Go.Proofs.Ytmgikdkcdihdlaa
