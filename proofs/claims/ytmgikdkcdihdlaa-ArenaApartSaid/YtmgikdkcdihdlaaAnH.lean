/-
  THE REFERENCE's ARENA: Take.
-/
import Derived.Test.YtmgikdkcdihdlaaAnG
namespace Go.Proofs.Ytmgikdkcdihdlaa
open Go.RowKit
open An

set_option maxRecDepth 100000 in
/-- A row becomes the arena's. -/
theorem RAr.put {w : World} {R n : Nat} {s' : Ars} {A A' : Option Addr} {c c' : Nat} (hb : w.heap[R]? = some (.cells #[.int .i64 s'.bud, .int .i64 (s'.beh + 1), .int .i64 s'.chg, .slice A n c] 42 (0, 0)))
    (hr : Row2 w A' s'.L.length c' s'.L) : RAr (w.setCell ⟨R, 3, none⟩ (.slice A' s'.L.length c')) R s' A' c' := by
  have hne : ∀ k, A'.map (·.block) = some k → ¬ k = R := by
    rintro k hk rfl
    obtain ⟨cur, hg⟩ := hr.ty hk
    rw [hb] at hg
    injection hg with hg
    injection hg with _ hg
    exact absurd hg (by decide)
  refine ⟨?_, hr.chg (K := fun k => k = R) ((Chg.refl (fun k => k = R) w).setCell (p := ⟨R, 3, none⟩) (.inl rfl) _) hne⟩
  rw [heap_setCell_same w R 3 _ _ _ hb]
  simp

/-- What Take lays. -/
def TkP (w : World) (R : Nat) (s : Ars) (A : Option Addr) (c : Nat) (n : Int) (A3 : Option Addr) (c3 : Nat) (w3 : World) (A5 : Option Addr) (c5 : Nat) (w5 : World) : Prop :=
  (Builtin.append_ #[40, 40] 40 #[.slice none 0 0, .slice A s.L.length c]).run Try.prog (w.setCell ⟨R, 1, none⟩ (.int .i64 (s.beh + 1 + n + 1))) = .ok (.slice A3 s.L.length c3) w3 ∧
  (Builtin.append_ #[40, 40] 40 #[.slice A3 s.L.length c3, .slice (some ⟨w3.heap.size, 0, none⟩) 1 1]).run Try.prog (w3.alloc (.cells #[.int .i64 (s.beh + 1), .int .i64 n] 52)) = .ok (.slice A5 (s.L.length + 1) c5) w5 ∧
  (w5.cell? ⟨R, 3, none⟩ = some (.slice A s.L.length c) ∧ w5.frozen? ⟨R, 3, none⟩ = false) ∧
  RAr (w5.setCell ⟨R, 3, none⟩ (.slice A5 (s.L.length + 1) c5)) R ⟨s.bud, s.beh + 1 + n, s.chg, s.L ++ [(s.beh + 1, n)]⟩ A5 c5 ∧
  Chg (fun k => k = R) w (w5.setCell ⟨R, 3, none⟩ (.slice A5 (s.L.length + 1) c5))
set_option maxRecDepth 100000 in
theorem take_prep {w : World} {R : Nat} {s : Ars} {A : Option Addr} {c : Nat} {T : Int} (h : RAr w R s A c) (hT : Ok T s) (hT2 : T ≤ 1000) (n : Int) : ∃ A3 c3 w3 A5 c5 w5, TkP w R s A c n A3 c3 w3 A5 c5 w5 := by
  have hlen := hT.len
  have hlt := h.lt
  have hc0 : Chg (fun k => k = R) w (w.setCell ⟨R, 1, none⟩ (.int .i64 (s.beh + 1 + n + 1))) := (Chg.refl (fun k => k = R) w).setCell (p := ⟨R, 1, none⟩) (.inl rfl) _
  have hb0 : (w.setCell ⟨R, 1, none⟩ (.int .i64 (s.beh + 1 + n + 1))).heap[R]? = some (.cells #[.int .i64 s.bud, .int .i64 (s.beh + 1 + n + 1), .int .i64 s.chg, .slice A s.L.length c] 42 (0, 0)) := by
    rw [heap_setCell_same w R 1 _ _ _ h.blk]
    simp
  have hr0 := h.row.chg hc0 (fun k hk e => h.neA (by rw [hk, e]))
  obtain ⟨A3, c3, w3, hrun3, ho3, hbe3, hl3⟩ := hr0.copy (by omega) 40
  have hR3 : R < (w.setCell ⟨R, 1, none⟩ (.int .i64 (s.beh + 1 + n + 1))).heap.size := by simpa using hlt
  have hb3 := (hbe3.block R hR3).trans hb0
  have hc4 : Chg (fun _ => False) w3 (w3.alloc (.cells #[.int .i64 (s.beh + 1), .int .i64 n] 52)) := .below ((Below.refl _ w3).alloc (Nat.le_refl _) _)
  have ho4 := ho3.chg hc4 (fun _ _ h => h)
  have hR4 : R < w3.heap.size := Nat.lt_of_lt_of_le hR3 hbe3.size
  have hb4 := (hc4.block R hR4 (fun h => h)).trans hb3
  obtain ⟨A5, c5, w5, hrun5, ho5, hg5, hl5⟩ := ho4.app (by omega) w3.heap.size 0 1 1 [(s.beh + 1, n)] rfl (by omega) (fun j u hu => by
    rw [Nat.zero_add, cell_of_row _ w3.heap.size j _ _ (0, 0) (heap_alloc_new w3 _)]
    simpa [rcs] using hu) 40
  have hA3 : some R ≠ A3.map (·.block) := fun e => by have := hl3 R e.symm; omega
  have hR5 : R < (w3.alloc (.cells #[.int .i64 (s.beh + 1), .int .i64 n] 52)).heap.size := Nat.lt_of_lt_of_le hR4 hc4.size
  have hb5 := (hg5.block R hR5 hA3).trans hb4
  have hl : (s.L ++ [(s.beh + 1, n)]).length = s.L.length + 1 := by simp
  have hput := RAr.put (s' := ⟨s.bud, s.beh + 1 + n, s.chg, s.L ++ [(s.beh + 1, n)]⟩) hb5 (by simp only [hl]; exact ho5)
  simp only [hl] at hput
  refine ⟨A3, c3, w3, A5, c5, w5, hrun3, hrun5, ⟨?_, frozen_of_row w5 R 3 _ _ hb5⟩, hput, ?_⟩
  · rw [cell_of_row w5 R 3 _ _ (0, 0) hb5]
    rfl
  · have k3 : Chg (fun k => k = R) w w3 := hc0.trans (Chg.below (K := fun k => k = R) hbe3) (fun _ _ h => h)
    have k4 : Chg (fun k => k = R) w _ := k3.trans hc4 (fun _ _ h => h.elim)
    have k5 : Chg (fun k => k = R) w w5 := k4.trans (Chg.grown (K := fun k => A3.map (·.block) = some k) hg5 (fun k e => e)) (fun k hk e => by have := hl3 k e; simp at this; omega)
    exact k5.setCell (p := ⟨R, 3, none⟩) (.inl rfl) _

set_option maxRecDepth 100000 in
set_option maxRecDepth 100000 in
set_option maxHeartbeats 2000000 in
theorem takeR_any {w : World} {R : Nat} {s : Ars} {T : Int} (h : Rar w R s) (hT : Ok T s) (hT2 : T ≤ 1000) (n : Int) :
    Calls Try.prog 10 #[.pointer (some ⟨R, 0, none⟩), .int .i64 n] w fun r w' => r = .returned (.tuple #[.int .i64 (takeO s n), .int .i64 (wr s n 1)]) ∧ RaP w R (takeS s n) w' := by
  have HR := Lib.hid (roomR_any h hT hT2 n)
  have hb := hT.bud
  have HH := Lib.hid h
  by_cases h1 : n < 1 ∨ 16777216 < n
  · have e : wr s n 1 = 2 := by unfold wr; rw [if_pos h1]
    have e2 : takeS s n = s := by unfold takeS; rw [if_neg (by omega)]
    have e3 : takeO s n = 0 := by unfold takeO; rw [if_neg (by omega)]
    rw [e, e2, e3]
    clear e e2 e3 h hT
    by_cases h2 : n < 1
    · have hd : decide (n < 1) = true := decide_eq_true h2
      go_enter Try.func10, Try.ntmps10
      go_wp2
      go_ret2
      exact ⟨rfl, HH.out, Chg.refl _ _⟩
    · have hd : decide (n < 1) = false := decide_eq_false h2
      have hd2 : decide (16777216 < n) = true := decide_eq_true (by omega)
      clear h1
      go_enter Try.func10, Try.ntmps10
      go_wp2
      go_ret2
      exact ⟨rfl, HH.out, Chg.refl _ _⟩
  · have hd : decide (n < 1) = false := decide_eq_false (by omega)
    have hd2 : decide (16777216 < n) = false := decide_eq_false (by omega)
    rcases roomB_wr s n 1 hb.1 (by omega) with ⟨e1, e2⟩ | ⟨e1, e2⟩
    · have e3 : takeS s n = ⟨s.bud, s.beh + 1 + n, s.chg, s.L ++ [(s.beh + 1, n)]⟩ := by unfold takeS; rw [if_pos e2]
      have e4 : takeO s n = s.beh + 1 := by unfold takeO; rw [if_pos e2]
      rw [e2, e3, e4]
      rw [e1] at HR
      have hbe := hT.beh
      obtain ⟨A, c, hr⟩ := h
      have x1 := hr.c1
      have x3 := hr.c3
      have f1 := hr.fz 1
      have f3 := hr.fz 3
      have HP := Lib.hid (fun q => take_prep (hr.drewN q) hT hT2 n)
      have hw : -100000000000 ≤ s.beh + 1 + n + 1 ∧ s.beh + 1 + n + 1 ≤ 100000000000 := by omega
      clear e1 e2 e3 e4 hr HH hT h1
      go_enter Try.func10, Try.ntmps10
      go_wp2_with (first
        | (go_at_call 23; (with_reducible refine HR.out.mono ?_); rintro r w1 ⟨rfl, q, rfl⟩; obtain ⟨A3, c3, w3, A5, c5, w5, t1, t2, ⟨t3, t4⟩, t5, t6⟩ := HP.out q; replace t1 := Lib.hid t1; replace t2 := Lib.hid t2; replace t5 := Lib.hid t5; replace t6 := Lib.hid t6)
        | (at_builtin; first | (refine wpApp rfl _ _ _ rfl _ _ _ rfl rfl t1.out ?_) | (refine wpApp rfl _ _ _ rfl _ _ _ rfl rfl t2.out ?_)))
      go_ret2
      exact ⟨rfl, ⟨A5, c5, t5.out⟩, ((Chg.refl (fun k => k = R) w).drewN q).trans t6.out (fun _ _ h => h)⟩
    · have e3 : takeS s n = s := by unfold takeS; rw [if_neg (by omega)]
      have e4 : takeO s n = 0 := by unfold takeO; rw [if_neg (by omega)]
      rw [e2, e3, e4]
      rw [e1] at HR
      clear e1 e2 e3 e4 h hT h1
      go_enter Try.func10, Try.ntmps10
      go_wp2_with (go_at_call 23; (with_reducible refine HR.out.mono ?_); rintro r w1 ⟨rfl, q, rfl⟩)
      go_ret2
      exact ⟨rfl, HH.out.drewN q, (Chg.refl _ _).drewN q⟩
end Go.Proofs.Ytmgikdkcdihdlaa
