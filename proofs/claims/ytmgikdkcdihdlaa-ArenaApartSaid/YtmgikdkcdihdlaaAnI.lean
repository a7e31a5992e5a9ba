/-
  THE REFERENCE's ARENA: Give.
-/
import Derived.Test.YtmgikdkcdihdlaaAnH
namespace Go.Proofs.Ytmgikdkcdihdlaa
open Go.RowKit
open An

set_option maxRecDepth 100000 in
theorem fnd_at {L : List (Int × Int)} {k : Int} {i : Nat} (hi : i < L.length) (hn : fnd k (L.take i) = none) (he : (rg L i).1 = k) : (fnd k L).isSome = true ∧ rem k L = L.take i ++ L.drop (i + 1) := by
  induction L generalizing i with
  | nil => simp at hi
  | cons a L ih =>
    cases i with
    | zero =>
      have e : a.1 = k := he
      simp only [fnd, rem, if_pos e]
      exact ⟨rfl, rfl⟩
    | succ i =>
      have e : rg (a :: L) (i + 1) = rg L i := by simp [rg]
      rw [e] at he
      simp only [List.take_succ_cons, fnd] at hn
      by_cases e2 : a.1 = k
      · rw [if_pos e2] at hn; cases hn
      · rw [if_neg e2] at hn
        obtain ⟨h1, h2⟩ := ih (by simpa using hi) hn he
        simp only [fnd, rem, if_neg e2, h1, h2]
        exact ⟨trivial, rfl⟩
set_option maxRecDepth 100000 in
theorem take_rg {L : List (Int × Int)} {i : Nat} (hi : i < L.length) : L.take (i + 1) = L.take i ++ [rg L i] := by
  rw [List.take_add_one, List.getElem?_eq_getElem hi]
  simp [rg, hi]
set_option maxRecDepth 100000 in
theorem fnd_step {L : List (Int × Int)} {k : Int} {i : Nat} (hi : i < L.length) (hn : fnd k (L.take i) = none) (he : (rg L i).1 ≠ k) : fnd k (L.take (i + 1)) = none := by
  rw [fnd_none] at hn ⊢
  intro q hq
  rw [take_rg hi, List.mem_append, List.mem_singleton] at hq
  rcases hq with hq | rfl
  · exact hn q hq
  · exact he

set_option maxRecDepth 100000 in
theorem rcs_takes (L : List (Int × Int)) (i : Nat) : rcs (L.take i) = (rcs L).take (i * 2) := by
  induction L generalizing i with
  | nil => simp [rcs]
  | cons a L ih =>
    cases i with
    | zero => simp [rcs]
    | succ i =>
      rw [List.take_succ_cons, show (i + 1) * 2 = i * 2 + 2 by omega]
      simp only [rcs, ih, List.take_succ_cons]
set_option maxRecDepth 100000 in
theorem rcs_drops (L : List (Int × Int)) (i : Nat) : rcs (L.drop i) = (rcs L).drop (i * 2) := by
  induction L generalizing i with
  | nil => simp [rcs]
  | cons a L ih =>
    cases i with
    | zero => simp [rcs]
    | succ i =>
      rw [List.drop_succ_cons, show (i + 1) * 2 = i * 2 + 2 by omega]
      simp only [rcs, ih, List.drop_succ_cons]

/-- What Give lays. -/
def GvP (w : World) (R : Nat) (s : Ars) (g c i o : Nat) (A3 : Option Addr) (c3 : Nat) (w3 : World) (A5 : Option Addr) (c5 : Nat) (w5 : World) : Prop :=
  (Builtin.append_ #[40, 40] 40 #[.slice none 0 0, .slice (some ⟨g, 0, none⟩) i c]).run Try.prog w = .ok (.slice A3 i c3) w3 ∧
  (Builtin.append_ #[40, 40] 40 #[.slice A3 i c3, .slice (some ⟨g, o, none⟩) (s.L.length - (i + 1)) (c - (i + 1))]).run Try.prog w3 = .ok (.slice A5 (s.L.length - 1) c5) w5 ∧
  (w3.cell? ⟨R, 3, none⟩ = some (.slice (some ⟨g, 0, none⟩) s.L.length c)) ∧
  (w5.cell? ⟨R, 3, none⟩ = some (.slice (some ⟨g, 0, none⟩) s.L.length c) ∧ w5.frozen? ⟨R, 3, none⟩ = false) ∧
  RAr (w5.setCell ⟨R, 3, none⟩ (.slice A5 (s.L.length - 1) c5)) R ⟨s.bud, s.beh, s.chg, s.L.take i ++ s.L.drop (i + 1)⟩ A5 c5 ∧
  Chg (fun k => k = R) w (w5.setCell ⟨R, 3, none⟩ (.slice A5 (s.L.length - 1) c5))
set_option maxRecDepth 100000 in
theorem give_prep {w : World} {R : Nat} {s : Ars} {g c : Nat} {T : Int} (h : RAr w R s (some ⟨g, 0, none⟩) c) (hT : Ok T s) (hT2 : T ≤ 1000) {i : Nat} (hi : i < s.L.length) (o : Nat) (ho : (c = i + 1 ∧ o = 0) ∨ o = (i + 1) * 2) : ∃ A3 c3 w3 A5 c5 w5, GvP w R s g c i o A3 c3 w3 A5 c5 w5 := by
  have hlen := hT.len
  have hlt := h.lt
  have hne := h.neA
  obtain ⟨A3, c3, w3, hrun3, ho3, hg3, hl3⟩ := (Row2.nil w).app (by omega) g 0 i c (s.L.take i) (by rw [List.length_take]; omega) (by omega) (fun j u hu => by
    rw [rcs_takes, List.getElem?_take] at hu
    split at hu
    · rw [Nat.zero_add, World.ownsRow.cellAt h.row.row j (by omega)]
      exact hu
    · cases hu) 40
  rw [Nat.zero_add] at hrun3 ho3
  rw [List.nil_append] at ho3
  have hbe3 : Below w.heap.size w w3 := ⟨hg3.os, hg3.tape, hg3.output, hg3.size, fun k hk => hg3.block k hk (by simp)⟩
  have hr3 := h.chg (Chg.below (K := fun _ => False) hbe3) (fun h => h) (fun _ _ h => h)
  obtain ⟨A5, c5, w5, hrun5, ho5, hg5, hl5⟩ := ho3.app (by omega) g o (s.L.length - (i + 1)) (c - (i + 1)) (s.L.drop (i + 1)) (by rw [List.length_drop]) (by omega) (fun j u hu => by
    rw [rcs_drops, List.getElem?_drop] at hu
    have hj : (i + 1) * 2 + j < s.L.length * 2 := by
      have h1 := (List.getElem?_eq_some_iff.1 hu).1
      rw [rcs_len] at h1
      exact h1
    have hbd := h.row.bound
    have ho2 : o = (i + 1) * 2 := by omega
    rw [ho2, World.ownsRow.cellAt hr3.row.row _ hj]
    exact hu) 40
  rw [show i + (s.L.length - (i + 1)) = s.L.length - 1 by omega] at hrun5 ho5
  have hA3 : ∀ q, A3.map (·.block) = some q → w.heap.size ≤ q := fun q hq => by
    rcases hl3 q hq with e | e
    · cases e
    · exact e
  have hb5 := (hg5.block R hr3.lt (fun e => by have := hA3 R e.symm; omega)).trans hr3.blk
  have hl : (s.L.take i ++ s.L.drop (i + 1)).length = s.L.length - 1 := by rw [List.length_append, List.length_take, List.length_drop]; omega
  have hput := RAr.put (s' := ⟨s.bud, s.beh, s.chg, s.L.take i ++ s.L.drop (i + 1)⟩) hb5 (by simp only [hl]; exact ho5)
  simp only [hl] at hput
  refine ⟨A3, c3, w3, A5, c5, w5, hrun3, hrun5, hr3.c3, ⟨?_, frozen_of_row w5 R 3 _ _ hb5⟩, hput, ?_⟩
  · rw [cell_of_row w5 R 3 _ _ (0, 0) hb5]
    rfl
  · have k3 : Chg (fun k => k = R) w w3 := Chg.below hbe3
    have k5 : Chg (fun k => k = R) w w5 := k3.trans (Chg.grown (K := fun k => A3.map (·.block) = some k) hg5 (fun k e => e)) (fun k hk e => by have := hA3 k e; omega)
    exact k5.setCell (p := ⟨R, 3, none⟩) (.inl rfl) _

set_option maxRecDepth 100000 in
set_option maxRecDepth 100000 in
set_option maxHeartbeats 4000000 in
theorem giveR_any {w : World} {R : Nat} {s : Ars} {T : Int} (h : Rar w R s) (hT : Ok T s) (hT2 : T ≤ 1000) (k : Int) :
    Calls Try.prog 13 #[.pointer (some ⟨R, 0, none⟩), .int .i64 k] w fun r w' => r = .returned (.bool (fnd k s.L).isSome) ∧ RaP w R (giveS s k) w' := by
  obtain ⟨A, c, h⟩ := h
  have x3 := h.c3
  have f3 := h.fz 3
  have hlen := hT.len
  go_enter Try.func13, Try.ntmps13
  go_wp2_with fail
  go_loopw [5] (fun x w' => ∃ i : Nat, i ≤ s.L.length ∧ x = .int .i64 (i : Int) ∧ Hid (fnd k (s.L.take i) = none) ∧ w = w') (fun x _ => s.L.length - (intOf x).toNat)
  case atStart => exact ⟨0, Nat.zero_le _, rfl, Lib.hid (by simp [fnd]), rfl⟩
  case round =>
    obtain ⟨i, hi, rfl, hn, rfl⟩ := hrel
    by_cases hil : i < s.L.length
    · obtain ⟨g, rfl, _⟩ := h.row.some (by omega)
      obtain ⟨y0, y1⟩ := h.row.el hil
      have hbd := h.row.bound
      have hd1 : decide ((i : Int) < (s.L.length : Int)) = true := decide_eq_true (by omega)
      by_cases he : (rg s.L i).1 = k
      · obtain ⟨h1, h2⟩ := fnd_at hil hn.out he
        have e3 : giveS s k = ⟨s.bud, s.beh, s.chg, s.L.take i ++ s.L.drop (i + 1)⟩ := by unfold giveS; rw [h2]
        have H1 := Lib.hid h1
        have H3 := Lib.hid e3
        have hd2 : ((rg s.L i).1 == k) = true := beq_iff_eq.2 he
        have hic : i ≤ c := by omega
        have hic1 : i + 1 ≤ c := by omega
        have hic2 : i + 1 ≤ s.L.length := hil
        have hcm : c ≤ 9223372036854775807 := hbd.2
        have hW : IntKind.i64.wrap ((i : Int) + 1) = ((i + 1 : Nat) : Int) := by
          rw [IntKind.wrap_i64]
          omega
        have hA1 : 0 ≤ (i : Int) + 1 := by omega
        have hA2 : (i : Int) + 1 ≤ (s.L.length : Int) := by omega
        by_cases hci : c = i + 1
        · obtain ⟨A3, c3, w3, A5, c5, w5, t1, t2, t3, ⟨t4, t5⟩, t6, t7⟩ := give_prep (h.drewN 1) hT hT2 hil 0 (.inl ⟨hci, rfl⟩)
          subst hci
          rw [Nat.sub_self, show s.L.length - (i + 1) = 0 by omega] at t2
          have hA3 : (i : Int) ≤ (i : Int) + 1 := by omega
          replace t1 := Lib.hid t1
          replace t2 := Lib.hid t2
          replace t6 := Lib.hid t6
          replace t7 := Lib.hid t7
          clear h hT h1 h2 e3 he hn y1
          go_wp2_with fail
          go_region_law (first | (refine step_app rfl (.const (.slice none 0 0)) (.tmp 31) 40 rfl (.slice none 0 0) _ _ rfl rfl t1.out ?_) | (refine step_app rfl (.tmp 32) (.tmp 39) 40 rfl (.slice A3 i c3) _ _ rfl rfl t2.out ?_))
          all_goals
            go_wp2
            go_ret
            exact ⟨by rw [H1.out]; rfl, by rw [H3.out]; exact ⟨A5, c5, t6.out⟩, ((Chg.refl (fun k => k = R) w).drewN 1).trans t7.out (fun _ _ h => h)⟩
        obtain ⟨A3, c3, w3, A5, c5, w5, t1, t2, t3, ⟨t4, t5⟩, t6, t7⟩ := give_prep (h.drewN 1) hT hT2 hil ((i + 1) * 2) (.inr rfl)
        replace t1 := Lib.hid t1
        replace t2 := Lib.hid t2
        replace t6 := Lib.hid t6
        replace t7 := Lib.hid t7
        clear h hT h1 h2 e3 he hn y1
        go_wp2_with fail
        go_region_law (first | (refine step_app rfl (.const (.slice none 0 0)) (.tmp 31) 40 rfl (.slice none 0 0) _ _ rfl rfl t1.out ?_) | (refine step_app rfl (.tmp 32) (.tmp 39) 40 rfl (.slice A3 i c3) _ _ rfl rfl t2.out ?_))
        all_goals
          go_wp2
          go_ret
          exact ⟨by rw [H1.out]; rfl, by rw [H3.out]; exact ⟨A5, c5, t6.out⟩, ((Chg.refl (fun k => k = R) w).drewN 1).trans t7.out (fun _ _ h => h)⟩
      · have hn2 := Lib.hid (fnd_step hil hn.out he)
        have hd2 : ((rg s.L i).1 == k) = false := beq_eq_false_iff_ne.2 he
        clear h hT hn he y1
        go_wp2_with fail
        exact ⟨⟨i + 1, by omega, rfl, hn2, trivial⟩, by simp [intOf]; omega⟩
    · have e : i = s.L.length := by omega
      subst e
      have hd1 : decide ((s.L.length : Int) < (s.L.length : Int)) = false := decide_eq_false (by omega)
      have h1 := hn.out
      rw [List.take_of_length_le (Nat.le_refl _)] at h1
      have e2 : giveS s k = s := by unfold giveS; rw [rem_none h1]
      have H1 := Lib.hid h1
      have H3 := Lib.hid e2
      have H := Lib.hid h
      clear h hT hn h1 e2
      go_wp2
      go_ret
      exact ⟨by rw [H1.out]; rfl, by rw [H3.out]; exact ⟨A, c, H.out⟩, Chg.refl _ _⟩
end Go.Proofs.Ytmgikdkcdihdlaa
