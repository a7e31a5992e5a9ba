/-
  PACKAGE arena: Take, Give, Charge, Back.
-/
import Derived.Test.YtmgikdkcdihdlaaAnB
namespace Go.Proofs.Ytmgikdkcdihdlaa
open Go.RowKit
open Go.Maps (keyOf_int_mk int_keyed)
open An

/-- What a call leaves that turns an arena. -/
def AnP (w : World) (S b : Nat) (s' : Ars) (w' : World) : Prop := Arn w' S b s' ∧ Chg (kA S b) w w'

set_option maxRecDepth 100000 in
theorem Arn.of2 {w : World} {S b : Nat} {a0 a2 a3 a4 v2 v3 : Int} {s : Ars} (hb : w.heap[S]? = some (.cells #[.int .i64 a0, .map (some b), .int .i64 a2, .int .i64 a3, .int .i64 a4] 49 (0, 0)))
    (hm : Mpo w b s.L) (hne : b ≠ S) (e0 : s.bud = a0) (e2 : s.beh = v2) (e3 : sumn s.L = v3) (e4 : s.chg = a4) : Arn ((w.setCell ⟨S, 2, none⟩ (.int .i64 v2)).setCell ⟨S, 3, none⟩ (.int .i64 v3)) S b s := by
  refine ⟨?_, hm.chg (K := fun k => k = S) (((Chg.refl (fun k => k = S) w).setCell (p := ⟨S, 2, none⟩) (.inl rfl) _).setCell (p := ⟨S, 3, none⟩) (.inl rfl) _) hne⟩
  rw [heap_setCell_same _ S 3 _ _ _ (heap_setCell_same w S 2 _ _ _ hb), e0, e2, e3, e4]
  simp
set_option maxRecDepth 100000 in
theorem Arn.of3 {w : World} {S b : Nat} {a0 a2 a3 a4 v3 : Int} {s : Ars} (hb : w.heap[S]? = some (.cells #[.int .i64 a0, .map (some b), .int .i64 a2, .int .i64 a3, .int .i64 a4] 49 (0, 0)))
    (hm : Mpo w b s.L) (hne : b ≠ S) (e0 : s.bud = a0) (e2 : s.beh = a2) (e3 : sumn s.L = v3) (e4 : s.chg = a4) : Arn (w.setCell ⟨S, 3, none⟩ (.int .i64 v3)) S b s := by
  refine ⟨?_, hm.chg (K := fun k => k = S) ((Chg.refl (fun k => k = S) w).setCell (p := ⟨S, 3, none⟩) (.inl rfl) _) hne⟩
  rw [heap_setCell_same w S 3 _ _ _ hb, e0, e2, e3, e4]
  simp
set_option maxRecDepth 100000 in
theorem Arn.of4 {w : World} {S b : Nat} {a0 a2 a3 a4 v4 : Int} {s : Ars} (hb : w.heap[S]? = some (.cells #[.int .i64 a0, .map (some b), .int .i64 a2, .int .i64 a3, .int .i64 a4] 49 (0, 0)))
    (hm : Mpo w b s.L) (hne : b ≠ S) (e0 : s.bud = a0) (e2 : s.beh = a2) (e3 : sumn s.L = a3) (e4 : s.chg = v4) : Arn (w.setCell ⟨S, 4, none⟩ (.int .i64 v4)) S b s := by
  refine ⟨?_, hm.chg (K := fun k => k = S) ((Chg.refl (fun k => k = S) w).setCell (p := ⟨S, 4, none⟩) (.inl rfl) _) hne⟩
  rw [heap_setCell_same w S 4 _ _ _ hb, e0, e2, e3, e4]
  simp
set_option maxRecDepth 100000 in
theorem ownQ {P : Program} {k : TypeId} {R : Value → Option (DataW Unit × List MemPlace)} {w : World} {b n : Nat} {D : DataW Unit} (h : w.ownsMap P k R b n D) (q : Nat) : (w.drewN q).ownsMap P k R b n D := h
set_option maxRecDepth 100000 in
theorem bneE {x : Int} (h : x ≠ 0) : (x != 0) = true := bne_iff_ne.2 h

set_option maxRecDepth 100000 in
set_option maxRecDepth 100000 in
set_option maxHeartbeats 2000000 in
theorem takeA_any {w : World} {S b : Nat} {s : Ars} {T : Int} (h : Arn w S b s) (hT : Ok T s) (hT2 : T ≤ 1000) (n : Int) :
    Calls Try.prog 9 #[.pointer (some ⟨S, 0, none⟩), .int .i64 n] w fun r w' => r = .returned (.tuple #[.int .i64 (takeO s n), .int .i64 (wr s n 1)]) ∧ AnP w S b (takeS s n) w' := by
  have HW := Lib.hid (wrong_any h hT hT2 n 1 (by omega))
  by_cases he : wr s n 1 = 0
  · have hn : 1 ≤ n ∧ n ≤ 16777216 := by
      rcases wr_cases s n 1 with ⟨e, _⟩ | ⟨e, _⟩ | ⟨_, e, _⟩
      · omega
      · omega
      · exact e
    have e1 : takeO s n = s.beh + 1 := by unfold takeO; rw [if_pos he]
    have e2 : takeS s n = ⟨s.bud, s.beh + 1 + n, s.chg, s.L ++ [(s.beh + 1, n)]⟩ := by unfold takeS; rw [if_pos he]
    have e3 := sumn_snoc s.L (s.beh + 1, n)
    rw [e1, e2, he]
    rw [he] at HW
    obtain ⟨D, ho, hm⟩ := h.map
    have hbe := hT.beh
    have hsu := hT.sum
    have hle := hT.len
    have hf := hT.fresh
    have HM : Hid (MpL (D.put (.int .i64 (s.beh + 1)) (.lit (.int .i64 n))) (s.L ++ [(s.beh + 1, n)])) := Lib.hid (hm.put _ _ hf)
    have HO := Lib.hid ho
    have HB := Lib.hid h.blk
    have HN := Lib.hid h.ne
    have HL := Lib.hid h.lt
    have x1 := h.c1
    have x2 := h.c2
    have hkey := keyOf_int_mk Try.underlying3 (a := s.beh + 1) (WalkArith.wf_i64 (by omega))
    have hval := plainElem_int (H := Unit) Try.underlying3 (a := n) (WalkArith.wf_i64 (by omega))
    have hlm : s.L.length < maxLen := by unfold maxLen; omega
    have E3 := Lib.hid e3
    clear h hT ho hm he e1 e2 e3 hf
    go_enter Try.func9, Try.ntmps9
    go_wp2_with (first
      | (go_at_call 22; (with_reducible refine HW.out.mono ?_); rintro r w1 ⟨rfl, q, rfl⟩)
      | (at_mapUpdate; go_loud (refine wpList_mapUpdate_own _ rfl _ _ _ 47 rfl 3 3 lawI Try.underlying47 _ b _ D rfl (ownQ HO.out q) hlm _ _ _ rfl rfl hkey _ [] hval ?_; intro w2 hown2 hgrow2; have B2 := (hgrow2.block S HL.out (fun e => HN.out (by injection e with e; exact e.symm))).trans HB.out; have y2 : w2.cell? ⟨S, 2, none⟩ = some (.int .i64 s.beh) := (cell_of_row w2 S 2 _ _ (0, 0) B2).trans rfl; have y3 : w2.cell? ⟨S, 3, none⟩ = some (.int .i64 (sumn s.L)) := (cell_of_row w2 S 3 _ _ (0, 0) B2).trans rfl; have f2 : w2.frozen? ⟨S, 2, none⟩ = false := frozen_of_row w2 S 2 _ _ B2; have f3 : w2.frozen? ⟨S, 3, none⟩ = false := frozen_of_row w2 S 3 _ _ B2; replace B2 := Lib.hid B2; replace hown2 := Lib.hid hown2; replace hgrow2 := Lib.hid hgrow2)))
    go_ret2
    refine ⟨rfl, Arn.of2 B2.out (Mpo.tight hown2.out HM.out) HN.out rfl rfl E3.out rfl, ?_⟩
    have hc : Chg (kA S b) w w2 := ((Chg.refl (kA S b) w).drewN q).trans (Chg.grown (K := kA S b) hgrow2.out (fun k e => .inr (by injection e with e; exact e.symm))) (fun _ _ h => h)
    exact (hc.setCell (p := ⟨S, 2, none⟩) (.inl (.inl rfl)) _).setCell (p := ⟨S, 3, none⟩) (.inl (.inl rfl)) _
  · have e1 : takeO s n = 0 := by unfold takeO; rw [if_neg he]
    have e2 : takeS s n = s := by unfold takeS; rw [if_neg he]
    rw [e1, e2]
    have hn := bneE he
    have H := Lib.hid h
    clear h hT e1 e2 he
    generalize wr s n 1 = x at *
    go_enter Try.func9, Try.ntmps9
    go_wp2_with (go_at_call 22; (with_reducible refine HW.out.mono ?_); rintro r w1 ⟨rfl, q, rfl⟩)
    go_ret2
    exact ⟨rfl, H.out.drewN q, (Chg.refl _ _).drewN q⟩
end Go.Proofs.Ytmgikdkcdihdlaa
