/-
  PACKAGE arena: Give, Charge, Back; no arena.
-/
import Derived.Test.YtmgikdkcdihdlaaAnC
namespace Go.Proofs.Ytmgikdkcdihdlaa
open Go.RowKit
open Go.Maps (keyOf_int_mk int_keyed)
open An

set_option maxRecDepth 100000 in
set_option maxRecDepth 100000 in
set_option maxHeartbeats 2000000 in
theorem giveA_any {w : World} {S b : Nat} {s : Ars} {T : Int} (h : Arn w S b s) (hT : Ok T s) (hT2 : T ≤ 1000) (k : Int) (hk : (Lit.int .i64 k).wf = true) :
    Calls Try.prog 12 #[.pointer (some ⟨S, 0, none⟩), .int .i64 k] w fun r w' => r = .returned (.bool (fnd k s.L).isSome) ∧ AnP w S b (giveS s k) w' := by
  obtain ⟨D, ho, hm⟩ := h.map
  have hkey := keyOf_int_mk Try.underlying3 hk
  have x1 := h.c1
  have hA := hm.has k
  have hV := hm.at_ k
  cases e : fnd k s.L with
  | none =>
    rw [e] at hA
    replace hA : Maps.has D (.int .i64 k) = false := hA
    have e2 : giveS s k = s := by unfold giveS; rw [rem_none e]
    rw [e2]
    have H := Lib.hid h
    have HO := Lib.hid ho
    clear h hT ho hm e e2 hV
    go_enter Try.func12, Try.ntmps12
    go_wp2_with (at_lookup; go_loud (refine wpList_lookup_own_ok_int _ rfl _ _ 47 rfl 3 3 .i64 lawI Try.underlying47 Try.underlying3 (zeroI _) b _ D rfl HO.out _ _ rfl hkey ?_; intro c hat hwc))
    go_ret
    exact ⟨rfl, H.out, Chg.refl _ _⟩
  | some n =>
    rw [e] at hA hV
    replace hA : Maps.has D (.int .i64 k) = true := hA
    replace hV : D.atKey (.int .i64 k) (.lit (.int .i64 0)) = .lit (.int .i64 n) := hV
    have hn := (hT.el _ (fnd_mem e)).2
    have hsu := hT.sum
    have E3 : Hid (sumn (rem k s.L) = sumn s.L - n) := Lib.hid (by have := (rem_sum e).1; omega)
    have HM : Hid (MpL (D.del (.int .i64 k)) (rem k s.L)) := Lib.hid (hm.del hT.dis k)
    have x3 := h.c3
    have HO := Lib.hid ho
    have HB := Lib.hid h.blk
    have HN := Lib.hid h.ne
    have HL := Lib.hid h.lt
    have HV := Lib.hid hV
    have hw : -100000000000 ≤ sumn s.L - n ∧ sumn s.L - n ≤ 100000000000 := by simp only at hn; omega
    clear h hT ho hm e hV hn hsu
    go_enter Try.func12, Try.ntmps12
    go_wp2_with (first
      | (at_lookup; go_loud (refine wpList_lookup_own_ok_int _ rfl _ _ 47 rfl 3 3 .i64 lawI Try.underlying47 Try.underlying3 (zeroI _) b _ D rfl HO.out _ _ rfl hkey ?_; intro c hat hwc; have hcn : c = n := (by (have h9 := hat.symm.trans HV.out); injection h9 with h9; injection h9); clear hat hwc; subst hcn))
      | (at_delete; go_loud (refine wpList_delete_own _ rfl _ _ 47 3 rfl 3 lawI Try.underlying47 _ b _ D rfl HO.out _ _ rfl hkey ?_; intro w2 hown2 hturn2; have hgrow2 := hturn2.grown; have B2 := (hgrow2.block S HL.out (fun e => HN.out (by injection e with e; exact e.symm))).trans HB.out; have y3 : w2.cell? ⟨S, 3, none⟩ = some (.int .i64 (sumn s.L)) := (cell_of_row w2 S 3 _ _ (0, 0) B2).trans rfl; have f3 : w2.frozen? ⟨S, 3, none⟩ = false := frozen_of_row w2 S 3 _ _ B2; clear hturn2; replace B2 := Lib.hid B2; replace hown2 := Lib.hid hown2; replace hgrow2 := Lib.hid hgrow2)))
    go_ret
    refine ⟨rfl, Arn.of3 B2.out (Mpo.tight hown2.out HM.out) HN.out rfl rfl E3.out rfl, ?_⟩
    have hc : Chg (kA S b) w w2 := Chg.grown (K := kA S b) hgrow2.out (fun k e => .inr (by injection e with e; exact e.symm))
    exact hc.setCell (p := ⟨S, 3, none⟩) (.inl (.inl rfl)) _

set_option maxRecDepth 100000 in
set_option maxRecDepth 100000 in
set_option maxHeartbeats 2000000 in
theorem chargeA_any {w : World} {S b : Nat} {s : Ars} {T : Int} (h : Arn w S b s) (hT : Ok T s) (hT2 : T ≤ 1000) (n : Int) :
    Calls Try.prog 14 #[.pointer (some ⟨S, 0, none⟩), .int .i64 n] w fun r w' => r = .returned (.int .i64 (wr s n 0)) ∧ AnP w S b (chargeS s n) w' := by
  have HW := Lib.hid (wrong_any h hT hT2 n 0 (by omega))
  by_cases he : wr s n 0 = 0
  · have hn : 0 ≤ n ∧ n ≤ 16777216 := by
      rcases wr_cases s n 0 with ⟨e, _⟩ | ⟨e, _⟩ | ⟨_, e, _⟩
      · omega
      · omega
      · exact e
    have e2 : chargeS s n = ⟨s.bud, s.beh, s.chg + n, s.L⟩ := by unfold chargeS; rw [if_pos he]
    rw [e2, he]
    rw [he] at HW
    have hch := hT.chg
    have x4 := h.c4
    have f4 := h.fz 4
    have HS : Hid (Arn (w.setCell ⟨S, 4, none⟩ (.int .i64 (s.chg + n))) S b ⟨s.bud, s.beh, s.chg + n, s.L⟩) := Lib.hid (Arn.of4 h.blk h.map h.ne rfl rfl rfl rfl)
    clear h hT he e2
    go_enter Try.func14, Try.ntmps14
    go_wp2_with (go_at_call 22; (with_reducible refine HW.out.mono ?_); rintro r w1 ⟨rfl, q, rfl⟩)
    go_ret
    exact ⟨rfl, HS.out.drewN _, (((Chg.refl (kA S b) w).setCell (p := ⟨S, 4, none⟩) (.inl (.inl rfl)) _)).drewN _⟩
  · have e2 : chargeS s n = s := by unfold chargeS; rw [if_neg he]
    rw [e2]
    have hn := bneE he
    have H := Lib.hid h
    clear h hT e2 he
    generalize wr s n 0 = x at *
    go_enter Try.func14, Try.ntmps14
    go_wp2_with (go_at_call 22; (with_reducible refine HW.out.mono ?_); rintro r w1 ⟨rfl, q, rfl⟩)
    go_ret
    exact ⟨rfl, H.out.drewN q, (Chg.refl _ _).drewN q⟩

set_option maxRecDepth 100000 in
set_option maxRecDepth 100000 in
set_option maxHeartbeats 2000000 in
theorem backA_any {w : World} {S b : Nat} {s : Ars} {T : Int} (h : Arn w S b s) (hT : Ok T s) (hT2 : T ≤ 1000) (n : Int) :
    Calls Try.prog 16 #[.pointer (some ⟨S, 0, none⟩), .int .i64 n] w fun r w' => r = .returned (.bool (backO s n)) ∧ AnP w S b (backS s n) w' := by
  have hch := hT.chg
  have x4 := h.c4
  have f4 := h.fz 4
  rcases backO_iff s n with ⟨e, h1, h2⟩ | ⟨e, h1 | ⟨h1, h2⟩⟩
  · have e2 : backS s n = ⟨s.bud, s.beh, s.chg - n, s.L⟩ := by unfold backS; rw [if_pos e]
    rw [e2, e]
    have HS : Hid (Arn (w.setCell ⟨S, 4, none⟩ (.int .i64 (s.chg - n))) S b ⟨s.bud, s.beh, s.chg - n, s.L⟩) := Lib.hid (Arn.of4 h.blk h.map h.ne rfl rfl rfl rfl)
    have hd1 : decide (n < 0) = false := decide_eq_false (by omega)
    have hd2 : decide (s.chg < n) = false := decide_eq_false (by omega)
    clear h hT e e2
    go_enter Try.func16, Try.ntmps16
    go_wp2
    go_ret
    exact ⟨rfl, HS.out, (Chg.refl (kA S b) w).setCell (p := ⟨S, 4, none⟩) (.inl (.inl rfl)) _⟩
  · have e2 : backS s n = s := by unfold backS; rw [e]; rfl
    rw [e2, e]
    have H := Lib.hid h
    have hd1 : decide (n < 0) = true := decide_eq_true h1
    clear h hT e e2
    go_enter Try.func16, Try.ntmps16
    go_wp2
    go_ret
    exact ⟨rfl, H.out, Chg.refl _ _⟩
  · have e2 : backS s n = s := by unfold backS; rw [e]; rfl
    rw [e2, e]
    have H := Lib.hid h
    have hd1 : decide (n < 0) = false := decide_eq_false (by omega)
    have hd2 : decide (s.chg < n) = true := decide_eq_true h2
    clear h hT e e2
    go_enter Try.func16, Try.ntmps16
    go_wp2
    go_ret
    exact ⟨rfl, H.out, Chg.refl _ _⟩

section
set_option maxRecDepth 100000
set_option maxRecDepth 100000 in
theorem wrongA_nil (n l : Int) (w : World) : Calls Try.prog 22 #[.pointer none, .int .i64 n, .int .i64 l] w fun r w' => r = .returned (.int .i64 1) ∧ w = w' := by
  go_enter Try.func22, Try.ntmps22
  go_wp2
  go_ret
  exact ⟨rfl, rfl⟩
set_option maxRecDepth 100000 in
theorem takeA_nil (n : Int) (w : World) : Calls Try.prog 9 #[.pointer none, .int .i64 n] w fun r w' => r = .returned (.tuple #[.int .i64 0, .int .i64 1]) ∧ w = w' := by
  go_enter Try.func9, Try.ntmps9
  go_wp2_with (go_at_call 22; (with_reducible refine (wrongA_nil _ _ _).mono ?_); rintro r w1 ⟨rfl, rfl⟩)
  go_ret2
  exact ⟨rfl, rfl⟩
set_option maxRecDepth 100000 in
theorem chargeA_nil (n : Int) (w : World) : Calls Try.prog 14 #[.pointer none, .int .i64 n] w fun r w' => r = .returned (.int .i64 1) ∧ w = w' := by
  go_enter Try.func14, Try.ntmps14
  go_wp2_with (go_at_call 22; (with_reducible refine (wrongA_nil _ _ _).mono ?_); rintro r w1 ⟨rfl, rfl⟩)
  go_ret
  exact ⟨rfl, rfl⟩
set_option maxRecDepth 100000 in
theorem giveA_nil (n : Int) (w : World) : Calls Try.prog 12 #[.pointer none, .int .i64 n] w fun r w' => r = .returned (.bool false) ∧ w = w' := by
  go_enter Try.func12, Try.ntmps12
  go_wp2
  go_ret
  exact ⟨rfl, rfl⟩
set_option maxRecDepth 100000 in
theorem backA_nil (n : Int) (w : World) : Calls Try.prog 16 #[.pointer none, .int .i64 n] w fun r w' => r = .returned (.bool false) ∧ w = w' := by
  go_enter Try.func16, Try.ntmps16
  go_wp2
  go_ret
  exact ⟨rfl, rfl⟩
set_option maxRecDepth 100000 in
theorem usedA_nil (w : World) : Calls Try.prog 18 #[.pointer none] w fun r w' => r = .returned (.int .i64 0) ∧ w = w' := by
  go_enter Try.func18, Try.ntmps18
  go_wp2
  go_ret
  exact ⟨rfl, rfl⟩
set_option maxRecDepth 100000 in
theorem regionsA_nil (w : World) : Calls Try.prog 20 #[.pointer none] w fun r w' => r = .returned (.int .i64 0) ∧ w = w' := by
  go_enter Try.func20, Try.ntmps20
  go_wp2
  go_ret
  exact ⟨rfl, rfl⟩
end
end Go.Proofs.Ytmgikdkcdihdlaa
