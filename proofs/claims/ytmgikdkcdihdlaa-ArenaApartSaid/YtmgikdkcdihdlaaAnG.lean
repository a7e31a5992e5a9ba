/-
  THE REFERENCE's ARENA: Charge, Back, Take.
-/
import Derived.Test.YtmgikdkcdihdlaaAnF
namespace Go.Proofs.Ytmgikdkcdihdlaa
open Go.RowKit
open An

set_option maxRecDepth 100000 in
theorem roomB_wr (s : Ars) (n l : Int) (hb : 0 ≤ s.bud) (hn : l ≤ n ∧ n ≤ 16777216) : (roomB s n = true ∧ wr s n l = 0) ∨ (roomB s n = false ∧ wr s n l = 7) := by
  unfold roomB
  rcases wr_cases s n l with ⟨e, h1⟩ | ⟨e, h1, h2, h3⟩ | ⟨e, h1, h2⟩
  · omega
  · right
    rw [beq_eq_false_iff_ne.2 (by omega : s.bud ≠ 0), decide_eq_false (by omega)]
    exact ⟨rfl, e⟩
  · left
    refine ⟨?_, e⟩
    rcases h2 with h2 | ⟨h2, h3⟩
    · rw [beq_iff_eq.2 (by omega : s.bud = 0)]
      rfl
    · rw [decide_eq_true (by omega)]
      simp

set_option maxRecDepth 100000 in
theorem RAr.of2 {w : World} {R : Nat} {s s' : Ars} {A : Option Addr} {c : Nat} (h : RAr w R s A c) (e0 : s'.bud = s.bud) (e1 : s'.beh = s.beh) (e3 : s'.L = s.L) : RAr (w.setCell ⟨R, 2, none⟩ (.int .i64 s'.chg)) R s' A c := by
  refine ⟨?_, ?_⟩
  · rw [heap_setCell_same w R 2 _ _ _ h.blk, e0, e1, e3]
    simp
  · rw [e3]
    exact h.row.chg (K := fun k => k = R) ((Chg.refl (fun k => k = R) w).setCell (p := ⟨R, 2, none⟩) (.inl rfl) _) (fun k hk e => h.neA (by rw [hk, e]))

set_option maxRecDepth 100000 in
set_option maxRecDepth 100000 in
set_option maxHeartbeats 2000000 in
theorem chargeR_any {w : World} {R : Nat} {s : Ars} {T : Int} (h : Rar w R s) (hT : Ok T s) (hT2 : T ≤ 1000) (n : Int) :
    Calls Try.prog 15 #[.pointer (some ⟨R, 0, none⟩), .int .i64 n] w fun r w' => r = .returned (.int .i64 (wr s n 0)) ∧ RaP w R (chargeS s n) w' := by
  have HR := Lib.hid (roomR_any h hT hT2 n)
  have hb := hT.bud
  have hch := hT.chg
  have HH := Lib.hid h
  by_cases h1 : n < 0 ∨ 16777216 < n
  · have e : wr s n 0 = 2 := by unfold wr; rw [if_pos h1]
    have e2 : chargeS s n = s := by unfold chargeS; rw [if_neg (by omega)]
    rw [e, e2]
    clear e e2 h hT
    by_cases h2 : n < 0
    · have hd : decide (n < 0) = true := decide_eq_true h2
      go_enter Try.func15, Try.ntmps15
      go_wp2
      go_ret
      exact ⟨rfl, HH.out, Chg.refl _ _⟩
    · have hd : decide (n < 0) = false := decide_eq_false h2
      have hd2 : decide (16777216 < n) = true := decide_eq_true (by omega)
      clear h1
      go_enter Try.func15, Try.ntmps15
      go_wp2
      go_ret
      exact ⟨rfl, HH.out, Chg.refl _ _⟩
  · have hd : decide (n < 0) = false := decide_eq_false (by omega)
    have hd2 : decide (16777216 < n) = false := decide_eq_false (by omega)
    rcases roomB_wr s n 0 hb.1 (by omega) with ⟨e1, e2⟩ | ⟨e1, e2⟩
    · have e3 : chargeS s n = ⟨s.bud, s.beh, s.chg + n, s.L⟩ := by unfold chargeS; rw [if_pos e2]
      rw [e2, e3]
      rw [e1] at HR
      obtain ⟨A, c, hr⟩ := h
      have x2 := hr.c2
      have f2 := hr.fz 2
      have HS : Hid (RAr (w.setCell ⟨R, 2, none⟩ (.int .i64 (s.chg + n))) R ⟨s.bud, s.beh, s.chg + n, s.L⟩ A c) := Lib.hid (RAr.of2 (s' := ⟨s.bud, s.beh, s.chg + n, s.L⟩) hr rfl rfl rfl)
      have hw : -100000000000 ≤ s.chg + n ∧ s.chg + n ≤ 100000000000 := by omega
      clear e1 e2 e3 hr HH hT h1
      go_enter Try.func15, Try.ntmps15
      go_wp2_with (go_at_call 23; (with_reducible refine HR.out.mono ?_); rintro r w1 ⟨rfl, q, rfl⟩)
      go_ret
      exact ⟨rfl, ⟨A, c, HS.out.drewN q⟩, ((Chg.refl (fun k => k = R) w).setCell (p := ⟨R, 2, none⟩) (.inl rfl) _).drewN q⟩
    · have e3 : chargeS s n = s := by unfold chargeS; rw [if_neg (by omega)]
      rw [e2, e3]
      rw [e1] at HR
      clear e1 e2 e3 h hT h1
      go_enter Try.func15, Try.ntmps15
      go_wp2_with (go_at_call 23; (with_reducible refine HR.out.mono ?_); rintro r w1 ⟨rfl, q, rfl⟩)
      go_ret
      exact ⟨rfl, HH.out.drewN q, (Chg.refl _ _).drewN q⟩

set_option maxRecDepth 100000 in
set_option maxRecDepth 100000 in
set_option maxHeartbeats 2000000 in
theorem backR_any {w : World} {R : Nat} {s : Ars} {T : Int} (h : Rar w R s) (hT : Ok T s) (hT2 : T ≤ 1000) (n : Int) :
    Calls Try.prog 17 #[.pointer (some ⟨R, 0, none⟩), .int .i64 n] w fun r w' => r = .returned (.bool (backO s n)) ∧ RaP w R (backS s n) w' := by
  have hch := hT.chg
  have HH := Lib.hid h
  obtain ⟨A, c, hr⟩ := h
  have x2 := hr.c2
  have f2 := hr.fz 2
  rcases backO_iff s n with ⟨e, h1, h2⟩ | ⟨e, h1 | ⟨h1, h2⟩⟩
  · have e2 : backS s n = ⟨s.bud, s.beh, s.chg - n, s.L⟩ := by unfold backS; rw [if_pos e]
    rw [e2, e]
    have HS : Hid (RAr (w.setCell ⟨R, 2, none⟩ (.int .i64 (s.chg - n))) R ⟨s.bud, s.beh, s.chg - n, s.L⟩ A c) := Lib.hid (RAr.of2 (s' := ⟨s.bud, s.beh, s.chg - n, s.L⟩) hr rfl rfl rfl)
    have hd1 : decide (n < 0) = false := decide_eq_false (by omega)
    have hd2 : decide (s.chg < n) = false := decide_eq_false (by omega)
    clear hr HH hT e e2
    go_enter Try.func17, Try.ntmps17
    go_wp2
    go_ret
    exact ⟨rfl, ⟨A, c, HS.out⟩, (Chg.refl (fun k => k = R) w).setCell (p := ⟨R, 2, none⟩) (.inl rfl) _⟩
  · have e2 : backS s n = s := by unfold backS; rw [e]; rfl
    rw [e2, e]
    have hd1 : decide (n < 0) = true := decide_eq_true h1
    clear hr hT e e2
    go_enter Try.func17, Try.ntmps17
    go_wp2
    go_ret
    exact ⟨rfl, HH.out, Chg.refl _ _⟩
  · have e2 : backS s n = s := by unfold backS; rw [e]; rfl
    rw [e2, e]
    have hd1 : decide (n < 0) = false := decide_eq_false (by omega)
    have hd2 : decide (s.chg < n) = true := decide_eq_true h2
    clear hr hT e e2
    go_enter Try.func17, Try.ntmps17
    go_wp2
    go_ret
    exact ⟨rfl, HH.out, Chg.refl _ _⟩

set_option maxRecDepth 100000 in
theorem und_regs : Try.prog.underlying 40 = some (.slice 52) := by kernel_rfl
set_option maxRecDepth 100000 in
theorem info_reg : (Try.prog.info? 52).map (fun i => (i.zero, i.size, i.bytes)) = some (some (.agg #[.int .i64 0, .int .i64 0]), 2, 16) := by kernel_rfl
set_option maxRecDepth 100000 in
theorem info_reg' : ∃ i, Try.prog.info? 52 = some i ∧ i.zero = some (.agg #[.int .i64 0, .int .i64 0]) ∧ i.size = 2 ∧ i.bytes = 16 := by
  have h := info_reg
  cases hi : Try.prog.info? 52 with
  | none => rw [hi] at h; simp at h
  | some i => rw [hi] at h; simp at h; exact ⟨i, rfl, h.1, h.2.1, h.2.2⟩
set_option maxRecDepth 100000 in
/-- Regions are put behind a row. -/
theorem Row2.app {w : World} {A : Option Addr} {n c : Nat} {L : List (Int × Int)} (h : Row2 w A n c L) (hn : n ≤ 100000) (g0 o k k0 : Nat) (M : List (Int × Int)) (hM : M.length = k) (hk2 : k ≤ 100000) (hc : ∀ j u, (rcs M)[j]? = Option.some u → w.cell? ⟨g0, o + j, none⟩ = Option.some u) (ty : TypeId) :
    ∃ A' c' w', (Builtin.append_ #[40, 40] ty #[.slice A n c, .slice (Option.some ⟨g0, o, none⟩) k k0]).run Try.prog w = .ok (.slice A' (n + k) c') w' ∧ Row2 w' A' (n + k) c' (L ++ M) ∧ w.grownBy w' (A.map (·.block)) ∧
      (∀ q, A'.map (·.block) = Option.some q → A.map (·.block) = Option.some q ∨ w.heap.size ≤ q) := by
  obtain ⟨i, hi, hz, hs, hb⟩ := info_reg'
  obtain ⟨v', w', hrun, ho, hg, _, hloc⟩ := run_append_own_at (P := Try.prog) w 0 40 ty 52 i (.agg #[.int .i64 0, .int .i64 0]) 2 16 und_regs hi hz hs hb rfl (by decide) (.slice A n c) n (rcs L) h.row ⟨g0, o, none⟩ k k0 (rcs M) (by rw [rcs_len, hM]) (by
    intro j u hu
    have : (⟨g0, o, none⟩ : Addr).add j = ⟨g0, o + j, none⟩ := by unfold Addr.add; split <;> simp_all
    rw [this]
    exact hc j u hu) (rcs_one M) (by unfold maxLen; omega) (by omega) (by omega)
  have hform : ∃ A' c', v' = .slice A' (n + k) c' := by
    rcases ho.2 with ⟨rfl, h0⟩ | ⟨g, cap, cur, rfl, _⟩
    · exact ⟨none, 0, by rw [h0]⟩
    · exact ⟨_, _, rfl⟩
  obtain ⟨A', c', rfl⟩ := hform
  rw [own_of] at hg hloc
  rw [own_of] at hloc
  refine ⟨A', c', w', hrun, ⟨by rw [List.length_append, h.len, hM], by rw [rcs_app]; exact ho⟩, hg, fun q hq => ?_⟩
  rcases hloc with e | e
  · rw [e] at hq; exact .inl hq
  · rw [e] at hq
    cases hq
    exact .inr (Nat.le_refl _)
set_option maxRecDepth 100000 in
/-- A copy of a row, by append onto nil. -/
theorem Row2.copy {w : World} {A : Option Addr} {n c : Nat} {L : List (Int × Int)} (h : Row2 w A n c L) (hn : n ≤ 100000) (ty : TypeId) :
    ∃ A' c' w', (Builtin.append_ #[40, 40] ty #[.slice none 0 0, .slice A n c]).run Try.prog w = .ok (.slice A' n c') w' ∧ Row2 w' A' n c' L ∧ Below w.heap.size w w' ∧
      (∀ q, A'.map (·.block) = Option.some q → w.heap.size ≤ q) := by
  rcases h.form with ⟨rfl, rfl, rfl⟩ | ⟨g, rfl⟩
  · obtain ⟨i, hi, hz, hs, hb⟩ := info_reg'
    have hl : L = [] := List.eq_nil_of_length_eq_zero (by rw [h.len])
    subst hl
    refine ⟨none, 0, w, run_append_owned_none w 0 40 ty 52 i 2 und_regs hi (.slice none 0 0) 0 [] (World.ownsRow_nil _ _ _ _), Row2.nil _, Below.refl _ _, fun q hq => by cases hq⟩
  · obtain ⟨A', c', w', hrun, ho, hg, hloc⟩ := (Row2.nil w).app (by omega) g 0 n c L h.len hn (fun j u hu => by
      have hj : j < n * 2 := by
        have h1 := (List.getElem?_eq_some_iff.1 hu).1
        rw [rcs_len, h.len] at h1
        exact h1
      rw [Nat.zero_add, World.ownsRow.cellAt h.row j hj]
      exact hu) ty
    rw [Nat.zero_add] at hrun ho
    rw [List.nil_append] at ho
    refine ⟨A', c', w', hrun, ho, ⟨hg.os, hg.tape, hg.output, hg.size, fun k hk => hg.block k hk (by simp)⟩, fun q hq => ?_⟩
    rcases hloc q hq with e | e
    · cases e
    · exact e
end Go.Proofs.Ytmgikdkcdihdlaa
