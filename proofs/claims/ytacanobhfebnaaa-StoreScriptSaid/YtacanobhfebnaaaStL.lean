/-
  THE REFERENCE's STORE: Find, Count, Bytes, Len.
-/
import Derived.Test.YtacanobhfebnaaaStK
namespace Go.Proofs.Ytacanobhfebnaaa
open Go.RowKit
open St

/-- The reference's store: its variable, its slots. -/
structure RSto (w : World) (R : Nat) (L : List Slt) (A : Option Addr) (c : Nat) : Prop where
  blk : w.heap[R]? = some (.cells #[.slice A L.length c] 30 (0, 0))
  row : Row3 w A L.length c L
namespace RSto
variable {w w' : World} {R : Nat} {L L' : List Slt} {A : Option Addr} {c g : Nat}
set_option maxRecDepth 100000 in
theorem c0 (h : RSto w R L A c) : w.cell? ⟨R, 0, none⟩ = some (.slice A L.length c) := by rw [cell_of_row w R 0 _ _ (0, 0) h.blk]; rfl
set_option maxRecDepth 100000 in
theorem fz (h : RSto w R L A c) : w.frozen? ⟨R, 0, none⟩ = false := frozen_of_row w R 0 _ _ h.blk
set_option maxRecDepth 100000 in
theorem lt (h : RSto w R L A c) : R < w.heap.size := (Array.getElem?_eq_some_iff.1 h.blk).1
set_option maxRecDepth 100000 in
theorem neA (h : RSto w R L A c) : A.map (·.block) ≠ some R := by
  intro hk
  obtain ⟨cur, hg⟩ := h.row.ty hk
  rw [h.blk] at hg
  injection hg with hg
  injection hg with _ hg
  exact absurd hg (by decide)
set_option maxRecDepth 100000 in
theorem chg {K : Nat → Prop} (h : RSto w R L A c) (hc : Chg K w w') (h1 : ¬ K R) (h2 : ∀ k, A.map (·.block) = some k → ¬ K k) : RSto w' R L A c := ⟨(hc.block R h.lt h1).trans h.blk, h.row.chg hc h2⟩
set_option maxRecDepth 100000 in
theorem upd (h : RSto w R L (some ⟨g, 0, none⟩) c) (hr : Row3 w' (some ⟨g, 0, none⟩) L.length c L') (hg : w.grownBy w' (some g)) : RSto w' R L' (some ⟨g, 0, none⟩) c := by
  have hl := hr.len
  refine ⟨?_, by rw [hl]; exact hr⟩
  rw [hl, hg.block R h.lt (fun e => h.neA (by rw [e]; rfl))]
  exact h.blk
set_option maxRecDepth 100000 in
theorem put0 (h : RSto w R L (some ⟨g, 0, none⟩) c) {i : Nat} (hi : i < L.length) (x : Int) :
    RSto (w.setCell ⟨g, i * 3, none⟩ (.int .i64 x)) R (L.set i ⟨x, (gt L i).ct, (gt L i).tx⟩) (some ⟨g, 0, none⟩) c ∧ w.grownBy (w.setCell ⟨g, i * 3, none⟩ (.int .i64 x)) (some g) := by
  have hg := (World.ownsRow.stored h.row.row (i * 3) (.int .i64 x)).2
  exact ⟨h.upd (h.row.put0 hi x) hg, hg⟩
set_option maxRecDepth 100000 in
theorem put1 (h : RSto w R L (some ⟨g, 0, none⟩) c) {i : Nat} (hi : i < L.length) (x : Int) :
    RSto (w.setCell ⟨g, i * 3 + 1, none⟩ (.int .i64 x)) R (L.set i ⟨(gt L i).st, x, (gt L i).tx⟩) (some ⟨g, 0, none⟩) c ∧ w.grownBy (w.setCell ⟨g, i * 3 + 1, none⟩ (.int .i64 x)) (some g) := by
  have hg := (World.ownsRow.stored h.row.row (i * 3 + 1) (.int .i64 x)).2
  exact ⟨h.upd (h.row.put1 hi x) hg, hg⟩
set_option maxRecDepth 100000 in
theorem put2 (h : RSto w R L (some ⟨g, 0, none⟩) c) {i : Nat} (hi : i < L.length) (t : ByteArray) :
    RSto (w.setCell ⟨g, i * 3 + 2, none⟩ (.string t)) R (L.set i ⟨(gt L i).st, (gt L i).ct, t⟩) (some ⟨g, 0, none⟩) c ∧ w.grownBy (w.setCell ⟨g, i * 3 + 2, none⟩ (.string t)) (some g) := by
  have hg := (World.ownsRow.stored h.row.row (i * 3 + 2) (.string t)).2
  exact ⟨h.upd (h.row.put2 hi t) hg, hg⟩
set_option maxRecDepth 100000 in
theorem drewN (h : RSto w R L A c) (q : Nat) : RSto (w.drewN q) R L A c := ⟨h.blk, ⟨h.row.len, h.row.row⟩⟩
end RSto
/-- What lies in the reference's store. -/
def kR (R : Nat) (A : Option Addr) (k : Nat) : Prop := k = R ∨ A.map (·.block) = some k
def Rst (w : World) (K : Nat → Prop) (R : Nat) (L : List Slt) : Prop :=
  ∃ A c, RSto w R L A c ∧ (∀ k, kR R A k → K k) ∧ ∀ k, K k → k < w.heap.size
set_option maxRecDepth 100000 in
theorem Rst.chg {w w' : World} {K K' : Nat → Prop} {R : Nat} {L : List Slt} (h : Rst w K R L) (hc : Chg K' w w') (hd : ∀ k, K k → ¬ K' k) : Rst w' K R L := by
  obtain ⟨A, c, hs, hk, hl⟩ := h
  exact ⟨A, c, hs.chg hc (hd _ (hk _ (.inl rfl))) (fun k h => hd k (hk k (.inr h))), hk, fun k h => Nat.lt_of_lt_of_le (hl k h) hc.size⟩
set_option maxRecDepth 100000 in
theorem Rst.drewN {w : World} {K : Nat → Prop} {R : Nat} {L : List Slt} (h : Rst w K R L) (q : Nat) : Rst (w.drewN q) K R L := by
  obtain ⟨A, c, hs, hk, hl⟩ := h
  exact ⟨A, c, hs.drewN q, hk, hl⟩
def RstP (w : World) (K : Nat → Prop) (R : Nat) (L' : List Slt) (w' : World) : Prop :=
  ∃ K', Rst w' K' R L' ∧ Chg K w w' ∧ ∀ k, K' k → K k ∨ w.heap.size ≤ k
set_option maxRecDepth 100000 in
theorem RSto.lts {w : World} {R : Nat} {L : List Slt} {A : Option Addr} {c : Nat} (h : RSto w R L A c) : ∀ k, kR R A k → k < w.heap.size := by
  rintro k (hk | hk)
  · rw [hk]; exact h.lt
  · exact h.row.lt hk
set_option maxRecDepth 100000 in
theorem RstP.of {w w' : World} {K : Nat → Prop} {R : Nat} {L' : List Slt} {A : Option Addr} {c : Nat} (hs : RSto w' R L' A c) (hc : Chg K w w') (hk : ∀ k, kR R A k → K k ∨ w.heap.size ≤ k) : RstP w K R L' w' :=
  ⟨kR R A, ⟨A, c, hs, fun _ h => h, hs.lts⟩, hc, hk⟩

set_option maxRecDepth 100000 in
set_option maxRecDepth 100000 in
set_option maxHeartbeats 2000000 in
theorem refFind_any {w : World} {R : Nat} {L : List Slt} {A : Option Addr} {c : Nat} (h : RSto w R L A c) (slot stamp : Int) :
    Calls Try.prog 17 #[.pointer (some ⟨R, 0, none⟩), .int .i64 slot, .int .i64 stamp] w fun r w' => r = .returned (.int .i64 (err L slot stamp)) ∧ w = w' := by
  have x0 := h.c0
  have hr := h.row
  have hE := Lib.hid (err_cases L slot stamp)
  clear h
  rcases hE.out with ⟨h1, h2 | h2 | ⟨i, rfl, hi, h2⟩⟩ | ⟨h1, i, rfl, hi, h2, h3⟩ | ⟨h1, i, rfl, hi, h2, h3⟩
  · have hd : decide (slot < 0) = true := decide_eq_true h2
    rw [h1]
    clear hE h1
    go_enter Try.func17, Try.ntmps17
    go_wp2
    go_ret
    exact ⟨rfl, rfl⟩
  · have hd : decide (slot < 0) = false := decide_eq_false (by omega)
    have hd2 : decide ((L.length : Int) ≤ slot) = true := decide_eq_true h2
    rw [h1]
    clear hE h1
    go_enter Try.func17, Try.ntmps17
    go_wp2
    go_ret
    exact ⟨rfl, rfl⟩
  · obtain ⟨g, rfl, _⟩ := hr.some (by omega)
    obtain ⟨y0, y1, y2⟩ := hr.el hi
    rw [h2] at y1
    have hd2 : decide ((L.length : Int) ≤ (i : Int)) = false := decide_eq_false (by omega)
    rw [h1]
    clear hE h1 h2
    go_enter Try.func17, Try.ntmps17
    go_wp2
    go_ret
    exact ⟨rfl, rfl⟩
  · obtain ⟨g, rfl, _⟩ := hr.some (by omega)
    obtain ⟨y0, y1, y2⟩ := hr.el hi
    have hd2 : decide ((L.length : Int) ≤ (i : Int)) = false := decide_eq_false (by omega)
    have hd3 : ((gt L i).ct == 0) = false := beq_eq_false_iff_ne.2 h2
    have hd4 : ((gt L i).st != stamp) = true := bne_iff_ne.2 h3
    rw [h1]
    clear hE h1
    go_enter Try.func17, Try.ntmps17
    go_wp2
    go_ret
    exact ⟨rfl, rfl⟩
  · obtain ⟨g, rfl, _⟩ := hr.some (by omega)
    obtain ⟨y0, y1, y2⟩ := hr.el hi
    have hd2 : decide ((L.length : Int) ≤ (i : Int)) = false := decide_eq_false (by omega)
    have hd3 : ((gt L i).ct == 0) = false := beq_eq_false_iff_ne.2 h2
    have hd4 : ((gt L i).st != stamp) = false := by rw [h3]; simp
    rw [h1]
    clear hE h1 h3
    go_enter Try.func17, Try.ntmps17
    go_wp2
    go_ret
    exact ⟨rfl, rfl⟩

set_option maxRecDepth 100000 in
set_option maxRecDepth 100000 in
set_option maxHeartbeats 4000000 in
theorem refCount_any {w : World} {K : Nat → Prop} {R : Nat} {L : List Slt} {T : Int} (h : Rst w K R L) (hT : Bd T L) (hT2 : T ≤ 1000) (hpos : ∀ i, i < L.length → 0 ≤ (gt L i).ct) (slot stamp by_ : Int) (hby : by_ = 1 ∨ by_ = -1) :
    Calls Try.prog 14 #[.pointer (some ⟨R, 0, none⟩), .int .i64 slot, .int .i64 stamp, .int .i64 by_] w fun r w' => r = .returned (.int .i64 (err L slot stamp)) ∧ RstP w K R (if err L slot stamp = 0 then cntL L slot.toNat by_ else L) w' := by
  obtain ⟨A, c, hs, hk, hl⟩ := h
  have hF := Lib.hid (refFind_any hs slot stamp)
  by_cases he : err L slot stamp = 0
  · rcases err_cases L slot stamp with ⟨h1, _⟩ | ⟨h1, _⟩ | ⟨h1, i, rfl, hil, h2, h3⟩
    · omega
    · omega
    · obtain ⟨g, rfl, _⟩ := hs.row.some (by omega)
      have h4 := hpos i hil
      have h5 := hT.ct i hil
      rw [h1] at hF
      rw [if_pos he, he, show ((i : Int)).toNat = i by omega]
      obtain ⟨y0, y1, y2⟩ := hs.row.el hil
      have x0 := hs.c0
      have f1 := hs.row.fz (i * 3 + 1)
      have f2 := hs.row.fz (i * 3 + 2)
      have P1 := hs.put1 hil ((gt L i).ct + by_)
      have hgR : g ≠ R := fun e => hs.neA (by rw [e]; rfl)
      have hKg : K g := hk g (.inr rfl)
      by_cases h7 : (gt L i).ct + by_ = 0
      · have e1 : cntL L i by_ = L.set i ⟨(gt L i).st, 0, ⟨#[]⟩⟩ := by unfold cntL; rw [if_pos h7, h7]
        have P2 := P1.1.put2 (i := i) (by rw [List.length_set]; exact hil) ⟨#[]⟩
        rw [gt_set_same _ hil, List.set_set] at P2
        simp only at P2
        rw [h7] at P1 P2
        have H2 := Lib.hid P2.1
        have HC : Hid (Chg K w ((w.setCell ⟨g, i * 3 + 1, none⟩ (.int .i64 0)).setCell ⟨g, i * 3 + 2, none⟩ (.string ⟨#[]⟩))) := Lib.hid (((Chg.refl K w).setCell (p := ⟨g, i * 3 + 1, none⟩) (.inl hKg) _).setCell (p := ⟨g, i * 3 + 2, none⟩) (.inl hKg) _)
        have hk := Lib.hid hk
        rw [e1]
        clear P1 P2 hs h1 h2 h3 he hT hpos hl
        go_enter Try.func14, Try.ntmps14
        go_wp2_with (go_at_call 17; (with_reducible refine hF.out.mono ?_); rintro r w1 ⟨rfl, rfl⟩)
        go_region
        all_goals
          go_wp2
          go_ret
          exact ⟨rfl, RstP.of (H2.out.drewN 1) (HC.out.drewN 1) (fun k hkk => .inl (hk.out k hkk))⟩
      · have e1 : cntL L i by_ = L.set i ⟨(gt L i).st, (gt L i).ct + by_, (gt L i).tx⟩ := by unfold cntL; rw [if_neg h7]
        have H2 := Lib.hid P1.1
        have HC : Hid (Chg K w (w.setCell ⟨g, i * 3 + 1, none⟩ (.int .i64 ((gt L i).ct + by_)))) := Lib.hid ((Chg.refl K w).setCell (p := ⟨g, i * 3 + 1, none⟩) (.inl hKg) _)
        have hk := Lib.hid hk
        have hw : -100000 ≤ (gt L i).ct + by_ ∧ (gt L i).ct + by_ ≤ 100000 := by omega
        rw [e1]
        clear P1 hs h1 h2 h3 he hT hpos hl
        go_enter Try.func14, Try.ntmps14
        go_wp2_with (go_at_call 17; (with_reducible refine hF.out.mono ?_); rintro r w1 ⟨rfl, rfl⟩)
        go_region
        all_goals
          go_wp2
          go_ret
          exact ⟨rfl, RstP.of (H2.out.drewN 1) (HC.out.drewN 1) (fun k hkk => .inl (hk.out k hkk))⟩
  · rw [if_neg he]
    have he2 : (err L slot stamp != 0) = true := bne_iff_ne.2 he
    have HS := Lib.hid hs
    have HK := Lib.hid hk
    clear he hs hk hl hT hpos
    generalize err L slot stamp = x at *
    go_enter Try.func14, Try.ntmps14
    go_wp2_with (go_at_call 17; (with_reducible refine hF.out.mono ?_); rintro r w1 ⟨rfl, rfl⟩)
    go_ret
    exact ⟨rfl, RstP.of HS.out (Chg.refl _ _) (fun k hkk => .inl (HK.out k hkk))⟩
end Go.Proofs.Ytacanobhfebnaaa
