/-
  THE REFERENCE's STORE: Put, Bytes, Len.
-/
import Derived.Test.YtacanobhfebnaaaStL
namespace Go.Proofs.Ytacanobhfebnaaa
open Go.RowKit
open St

set_option maxRecDepth 100000 in
/-- append([]Slot(nil), slots...). -/
theorem Row3.copy {w : World} {A : Option Addr} {n c : Nat} {L : List Slt} (h : Row3 w A n c L) (hn : n ≤ 100000) (ty : TypeId) :
    ∃ A' c' w', (Builtin.append_ #[28, 28] ty #[.slice none 0 0, .slice A n c]).run Try.prog w = .ok (.slice A' n c') w' ∧ Row3 w' A' n c' L ∧ Below w.heap.size w w' ∧ (∀ q, A'.map (·.block) = Option.some q → w.heap.size ≤ q) := by
  rcases h.row.2 with ⟨h0, h1⟩ | ⟨g, cap, cur, hv, _, hg, _⟩
  · cases h0
    have hl : L = [] := List.eq_nil_of_length_eq_zero (by rw [h.len])
    subst hl
    obtain ⟨i, hi, hz, hs, hb⟩ := info_slot'
    refine ⟨none, 0, w, ?_, Row3.nil _, Below.refl _ _, fun k hk => by cases hk⟩
    simp [Builtin.append_, run_underlying und_slots, sizeOf, typeInfo, hi, Builtin.lenOf, Builtin.firstCells]
  · cases hv
    obtain ⟨A', c', w', hrun, ho, hg', hloc⟩ := (Row3.nil w).app (Nat.zero_le _) g n c L h.len hn (fun j u hu => by
      have hj : j < n * 3 := by
        have h1 := (List.getElem?_eq_some_iff.1 hu).1
        rw [scs_len, h.len] at h1
        exact h1
      rw [World.ownsRow.cellAt h.row j hj]
      exact hu) ty
    rw [Nat.zero_add, List.nil_append] at ho
    rw [Nat.zero_add] at hrun
    refine ⟨A', c', w', hrun, ho, (Below.refl _ w).grown hg' (Nat.le_refl _) (fun k hk => by cases hk), fun k hk => ?_⟩
    rcases hloc k hk with e | e
    · cases e
    · exact e

set_option maxRecDepth 100000 in
set_option maxRecDepth 100000 in
set_option maxHeartbeats 2000000 in
theorem refPut_long (R : Nat) (b : ByteArray) (hb : 400 < b.size) (hb2 : b.size ≤ 140737488355328) (w : World) :
    Calls Try.prog 11 #[.pointer (some ⟨R, 0, none⟩), .string b] w fun r w' => r = .returned (.tuple #[.int .i64 0, .int .i64 0, .int .i64 2]) ∧ w = w' := by
  have hd : decide ((400 : Int) < (b.size : Int)) = true := decide_eq_true (by omega)
  go_enter Try.func11, Try.ntmps11
  go_wp2
  go_ret3
  exact ⟨rfl, rfl⟩

set_option maxRecDepth 100000 in
set_option maxRecDepth 100000 in
set_option maxHeartbeats 4000000 in
theorem refPut_any {w : World} {K : Nat → Prop} {R : Nat} {L : List Slt} {T : Int} (h : Rst w K R L) (hT : Bd T L) (hT2 : T ≤ 1000) (b : ByteArray) (hb : b.size ≤ 400) :
    Calls Try.prog 11 #[.pointer (some ⟨R, 0, none⟩), .string b] w fun r w' => r = .returned (.tuple #[.int .i64 (fr L : Int), .int .i64 (gt (putL L b) (fr L)).st, .int .i64 0]) ∧ RstP w K R (putL L b) w' := by
  obtain ⟨A, c, hs, hk, hl⟩ := h
  have hlen := hT.len
  have hd : decide ((400 : Int) < (b.size : Int)) = false := decide_eq_false (by omega)
  have x0 := hs.c0
  have hfr := fr_le L
  obtain ⟨f, hf⟩ : ∃ f, fr L = f := ⟨_, rfl⟩
  rw [hf] at hfr ⊢
  have HS := Lib.hid hs
  have HK := Lib.hid hk
  clear hs hk hl
  go_enter Try.func11, Try.ntmps11
  go_wp2_with fail
  go_loopw [7] (fun x w' => ∃ i : Nat, i ≤ f ∧ x = .int .i64 (i : Int) ∧ w' = w) (fun x _ => f - (intOf x).toNat)
  case atStart => exact ⟨0, Nat.zero_le _, rfl, rfl⟩
  case round =>
    obtain ⟨i, hi, rfl, rfl⟩ := hrel
    by_cases hif : i < f
    · have hpos := fr_before L i (by omega)
      obtain ⟨g, rfl, _⟩ := HS.out.row.some (by omega)
      obtain ⟨y0, y1, y2⟩ := HS.out.row.el (i := i) (by omega)
      have hd1 : decide ((i : Int) < (L.length : Int)) = true := decide_eq_true (by omega)
      have hd2 : decide (0 < (gt L i).ct) = true := decide_eq_true hpos
      clear hpos
      go_wp2_with fail
      exact ⟨⟨i + 1, by omega, rfl, trivial⟩, by simp [intOf]; omega⟩
    · have e : i = f := by omega
      subst e
      by_cases hiL : i = L.length
      · subst hiL
        have e1 : putL L b = (L ++ [Slt.zero]).set L.length ⟨1, 1, b⟩ := by unfold putL; rw [if_neg (by omega)]; simp
        obtain ⟨A1, c1, w1, hr1, ho1, hb1, hl1⟩ := HS.out.row.copy (by omega) 28
        have hb2 : Below w1.heap.size w1 (w1.alloc (.cells #[.int .i64 0, .int .i64 0, .string ⟨#[]⟩] 46)) := (Below.refl _ _).alloc (Nat.le_refl _) _
        have ho2 := ho1.chg (Chg.below (K := fun _ => False) hb2) (fun _ _ h => h)
        obtain ⟨A2, c2, w2, hr2, ho3, hg3, hl3⟩ := ho2.app (by omega) w1.heap.size 1 1 [Slt.zero] rfl (by omega) (by
          intro j u hu
          rw [cell_of_row _ w1.heap.size j _ _ (0, 0) (heap_alloc_new w1 _)]
          simpa [scs, Slt.zero] using hu) 28
        have hR : R < wr.heap.size := HS.out.lt
        have hRne : ∀ k, A1.map (·.block) = some k → ¬ R = k := fun k hk e => by have := hl1 k hk; omega
        have hblk2 : w2.heap[R]? = some (.cells #[.slice A L.length c] 30 (0, 0)) := by
          rw [hg3.block R (by simp; exact Nat.lt_of_lt_of_le hR (Nat.le_trans hb1.size (Nat.le_succ _))) (fun e => hRne R e.symm rfl), hb2.block R (Nat.lt_of_lt_of_le hR hb1.size), hb1.block R hR]
          exact HS.out.blk
        have x1 : w1.cell? ⟨R, 0, none⟩ = some (.slice A L.length c) := by rw [cell_of_row w1 R 0 _ _ (0, 0) ((hb1.block R hR).trans HS.out.blk)]; rfl
        have x2 : w2.cell? ⟨R, 0, none⟩ = some (.slice A L.length c) := by rw [cell_of_row w2 R 0 _ _ (0, 0) hblk2]; rfl
        have xf2 : w2.frozen? ⟨R, 0, none⟩ = false := frozen_of_row w2 R 0 _ _ hblk2
        have hA2 : A2.map (·.block) ≠ some R := fun e => by
          rcases hl3 R e with e1 | e1
          · exact hRne R e1 rfl
          · simp at e1
            have := hb1.size
            omega
        have hs3 : RSto (w2.setCell ⟨R, 0, none⟩ (.slice A2 (L.length + 1) c2)) R (L ++ [Slt.zero]) A2 c2 := by
          have hlL : (L ++ [Slt.zero]).length = L.length + 1 := by simp
          refine ⟨?_, ?_⟩
          · rw [heap_setCell_same w2 R 0 _ _ _ hblk2, hlL]
            simp
          · rw [hlL]
            exact ho3.chg ((Chg.refl (fun k => k = R) w2).setCell (p := ⟨R, 0, none⟩) (.inl rfl) _) (fun k hk e => hA2 (by rw [hk, e]))
        have hc1 : Chg K wr w1 := Chg.below hb1
        have hc2 := hc1.trans (Chg.below (K := fun _ => False) hb2) (fun _ _ h => h.elim)
        have hc4 := hc2.trans (Chg.grown hg3 (K := fun k => A1.map (·.block) = some k) (fun k hk => hk)) (fun k hk e => absurd (hl1 k e) (by omega))
        have hc3 := hc4.setCell (p := ⟨R, 0, none⟩) (.inl (HK.out R (.inl rfl))) (.slice A2 (L.length + 1) c2)
        have hk3 : ∀ k, kR R A2 k → K k ∨ wr.heap.size ≤ k := by
          rintro k (hk | hk)
          · rw [hk]; exact .inl (HK.out R (.inl rfl))
          · rcases hl3 k hk with e | e
            · exact .inr (hl1 k e)
            · have := hb1.size
              simp at e
              exact .inr (by omega)
        have hil : L.length < (L ++ [Slt.zero]).length := by simp
        obtain ⟨g, rfl, _⟩ := hs3.row.some (by simp)
        obtain ⟨y0, y1, y2⟩ := hs3.row.el (i := L.length) hil
        have z0 := hs3.c0
        have f0 := hs3.row.fz (L.length * 3)
        have f1 := hs3.row.fz (L.length * 3 + 1)
        have f2 := hs3.row.fz (L.length * 3 + 2)
        have P0 := hs3.put0 (i := L.length) hil ((gt (L ++ [Slt.zero]) L.length).st + 1)
        have P1 := P0.1.put1 (i := L.length) (by rw [List.length_set]; exact hil) 1
        rw [gt_set_same _ hil, List.set_set] at P1
        have P2 := P1.1.put2 (i := L.length) (by rw [List.length_set]; exact hil) b
        rw [gt_set_same _ hil, List.set_set] at P2
        simp only at P1 P2
        have hKg : K g ∨ wr.heap.size ≤ g := hk3 g (.inr rfl)
        have HC := Lib.hid (((hc3.setCell (p := ⟨g, L.length * 3, none⟩) hKg (.int .i64 ((gt (L ++ [Slt.zero]) L.length).st + 1))).setCell (p := ⟨g, L.length * 3 + 1, none⟩) hKg (.int .i64 1)).setCell (p := ⟨g, L.length * 3 + 2, none⟩) hKg (.string b))
        have H2 := Lib.hid P2.1
        have HK3 := Lib.hid hk3
        have hst : 0 ≤ (gt (L ++ [Slt.zero]) L.length).st ∧ (gt (L ++ [Slt.zero]) L.length).st ≤ 1000 := by rw [gt_new]; simp [Slt.zero]
        have z3 := P2.1.c0
        obtain ⟨u0, u1, u2⟩ := P2.1.row.el (i := L.length) (by rw [List.length_set]; exact hil)
        rw [gt_set_same _ hil] at u0
        simp only at u0
        have e2 : (L ++ [Slt.zero]).set L.length ⟨(gt (L ++ [Slt.zero]) L.length).st + 1, 1, b⟩ = putL L b := by rw [e1, gt_new]; rfl
        have e3 : (gt (putL L b) L.length).st = (gt (L ++ [Slt.zero]) L.length).st + 1 := by rw [← e2, gt_set_same _ hil]
        rw [e2] at H2
        have E3 := Lib.hid e3
        have hlL : (L ++ [Slt.zero]).length = L.length + 1 := by simp
        rw [hlL] at z0
        rw [List.length_set, hlL] at z3
        have H1 := Lib.hid hr1
        have HR2 := Lib.hid hr2
        clear hr1 hr2 hs3 P0 P1 P2 hc1 hc2 hc4 hc3 hk3 hg3 hl3 ho1 ho2 ho3 e1 e2 e3 hb2 hT hl1 hRne hA2 hKg hblk2
        go_wp2_with (at_builtin; first | (refine wpApp rfl _ _ _ rfl _ _ _ rfl rfl H1.out ?_; clear H1) | (refine wpApp rfl _ _ _ rfl _ _ _ rfl rfl HR2.out ?_))
        go_region
        all_goals
          go_wp2_with fail
          go_quiet (fail)
          go_wp2
          go_ret3
          exact ⟨by rw [E3.out]; rfl, RstP.of ((H2.out.drewN 1).drewN _) ((HC.out.drewN 1).drewN _) HK3.out⟩
      · have hil : i < L.length := by omega
        have hpos := fr_at L (by omega)
        rw [hf] at hpos
        have hd1 : decide ((i : Int) < (L.length : Int)) = true := decide_eq_true (by omega)
        have hd2 : decide (0 < (gt L i).ct) = false := decide_eq_false (by omega)
        obtain ⟨A3, hA3⟩ : ∃ A3, A3 = A := ⟨_, rfl⟩
        have hs3 := HS.out
        obtain ⟨g, rfl, _⟩ := hs3.row.some (by omega)
        have hc3 : Chg K wr wr := Chg.refl _ _
        have hk3 : ∀ k, kR R (some ⟨g, 0, none⟩) k → K k ∨ wr.heap.size ≤ k := fun k hk => .inl (HK.out k hk)
        obtain ⟨y0, y1, y2⟩ := hs3.row.el (i := i) hil
        have z0 := hs3.c0
        have f0 := hs3.row.fz (i * 3)
        have f1 := hs3.row.fz (i * 3 + 1)
        have f2 := hs3.row.fz (i * 3 + 2)
        have P0 := hs3.put0 (i := i) hil ((gt L i).st + 1)
        have P1 := P0.1.put1 (i := i) (by rw [List.length_set]; exact hil) 1
        rw [gt_set_same _ hil, List.set_set] at P1
        have P2 := P1.1.put2 (i := i) (by rw [List.length_set]; exact hil) b
        rw [gt_set_same _ hil, List.set_set] at P2
        simp only at P1 P2
        have hKg : K g ∨ wr.heap.size ≤ g := hk3 g (.inr rfl)
        have HC := Lib.hid (((hc3.setCell (p := ⟨g, i * 3, none⟩) hKg (.int .i64 ((gt L i).st + 1))).setCell (p := ⟨g, i * 3 + 1, none⟩) hKg (.int .i64 1)).setCell (p := ⟨g, i * 3 + 2, none⟩) hKg (.string b))
        have H2 := Lib.hid P2.1
        have HK3 := Lib.hid hk3
        have hst : 0 ≤ (gt L i).st ∧ (gt L i).st ≤ 1000 := by have := hT.st i hil; omega
        have z3 := P2.1.c0
        obtain ⟨u0, u1, u2⟩ := P2.1.row.el (i := i) (by rw [List.length_set]; exact hil)
        rw [gt_set_same _ hil] at u0
        simp only at u0
        have e2 : L.set i ⟨(gt L i).st + 1, 1, b⟩ = putL L b := by unfold putL; rw [hf, if_pos hil]
        have e3 : (gt (putL L b) i).st = (gt L i).st + 1 := by rw [← e2, gt_set_same _ hil]
        rw [e2] at H2
        have E3 := Lib.hid e3
        rw [List.length_set] at z3
        have hne : ¬ i = L.length := hiL
        clear hs3 P0 P1 P2 hc3 hk3 e2 e3 hT hKg hpos hA3
        go_wp2_with fail
        go_region
        all_goals
          go_wp2_with fail
          go_quiet (fail)
          go_wp2
          go_ret3
          exact ⟨by rw [E3.out]; rfl, RstP.of ((H2.out.drewN 1).drewN _) ((HC.out.drewN 1).drewN _) HK3.out⟩

set_option maxRecDepth 100000 in
/-- How many bytes, how many slots in use there are up to k. -/
theorem sumb_take (L : List Slt) (k : Nat) (h : k < L.length) : sumb (L.take (k + 1)) = sumb (L.take k) + (gt L k).tx.size := by
  induction L generalizing k with
  | nil => simp at h
  | cons a L ih =>
    cases k with
    | zero => simp [sumb, gt]
    | succ k =>
      have := ih k (by simpa using h)
      have e : gt (a :: L) (k + 1) = gt L k := by simp [gt]
      rw [List.take_succ_cons, List.take_succ_cons, sumb, sumb, this, e]
      omega
set_option maxRecDepth 100000 in
theorem usd_take (L : List Slt) (k : Nat) (h : k < L.length) : usd (L.take (k + 1)) = usd (L.take k) + (if 0 < (gt L k).ct then 1 else 0) := by
  induction L generalizing k with
  | nil => simp at h
  | cons a L ih =>
    cases k with
    | zero => simp [usd, gt]
    | succ k =>
      have := ih k (by simpa using h)
      have e : gt (a :: L) (k + 1) = gt L k := by simp [gt]
      rw [List.take_succ_cons, List.take_succ_cons, usd, usd, this, e]
      omega
set_option maxRecDepth 100000 in
theorem sumb_takes {T : Int} {L : List Slt} (h : Bd T L) (k : Nat) (hk : k ≤ L.length) : sumb (L.take k) ≤ 400 * k := by
  induction k with
  | zero => simp [sumb]
  | succ k ih =>
    have h1 := ih (by omega)
    have h2 := h.tx k (by omega)
    rw [sumb_take L k (by omega)]
    omega
set_option maxRecDepth 100000 in
theorem usd_takes (L : List Slt) (k : Nat) (hk : k ≤ L.length) : usd (L.take k) ≤ k := by
  induction k with
  | zero => simp [usd]
  | succ k ih =>
    have h1 := ih (by omega)
    rw [usd_take L k (by omega)]
    split <;> omega

set_option maxRecDepth 100000 in
set_option maxRecDepth 100000 in
set_option maxHeartbeats 2000000 in
theorem refBytes_any {w : World} {R : Nat} {L : List Slt} {A : Option Addr} {c : Nat} {T : Int} (h : RSto w R L A c) (hT : Bd T L) (hT2 : T ≤ 1000) :
    Calls Try.prog 20 #[.pointer (some ⟨R, 0, none⟩)] w fun r w' => r = .returned (.int .i64 (sumb L : Int)) ∧ w = w' := by
  have x0 := h.c0
  have hlen := hT.len
  go_enter Try.func20, Try.ntmps20
  go_wp2_with fail
  go_loopw [3, 4] (fun y x w' => ∃ k : Nat, k ≤ L.length ∧ x = .int .i64 (k : Int) ∧ y = .int .i64 (sumb (L.take k) : Int) ∧ w = w') (fun _ x _ => L.length - (intOf x).toNat)
  case atStart => exact ⟨0, Nat.zero_le _, rfl, rfl, rfl⟩
  case round =>
    obtain ⟨k, hk, rfl, rfl, rfl⟩ := hrel
    by_cases hkl : k < L.length
    · obtain ⟨g, rfl, _⟩ := h.row.some (by omega)
      obtain ⟨y0, y1, y2⟩ := h.row.el hkl
      have hs := sumb_takes hT k hk
      have hz := hT.tx k hkl
      have hS := Lib.hid (sumb_take L k hkl)
      have hd1 : decide ((k : Int) < (L.length : Int)) = true := decide_eq_true (by omega)
      clear h hT
      generalize sumb (L.take k) = z at *
      go_wp2_with fail
      exact ⟨⟨k + 1, by omega, rfl, by rw [hS.out]; rfl, trivial⟩, by simp [intOf]; omega⟩
    · have e : k = L.length := by omega
      subst e
      have hd1 : decide ((L.length : Int) < (L.length : Int)) = false := decide_eq_false (by omega)
      rw [List.take_of_length_le (Nat.le_refl _)]
      clear h hT
      go_wp2
      go_ret
      exact ⟨rfl, rfl⟩
set_option maxRecDepth 100000 in
set_option maxRecDepth 100000 in
set_option maxHeartbeats 2000000 in
theorem refLen_any {w : World} {R : Nat} {L : List Slt} {A : Option Addr} {c : Nat} {T : Int} (h : RSto w R L A c) (hT : Bd T L) (hT2 : T ≤ 1000) :
    Calls Try.prog 22 #[.pointer (some ⟨R, 0, none⟩)] w fun r w' => r = .returned (.int .i64 (usd L : Int)) ∧ w = w' := by
  have x0 := h.c0
  have hlen := hT.len
  clear hT
  go_enter Try.func22, Try.ntmps22
  go_wp2_with fail
  go_loopw [3, 4] (fun y x w' => ∃ k : Nat, k ≤ L.length ∧ x = .int .i64 (k : Int) ∧ y = .int .i64 (usd (L.take k) : Int) ∧ w = w') (fun _ x _ => L.length - (intOf x).toNat)
  case atStart => exact ⟨0, Nat.zero_le _, rfl, rfl, rfl⟩
  case round =>
    obtain ⟨k, hk, rfl, rfl, rfl⟩ := hrel
    by_cases hkl : k < L.length
    · obtain ⟨g, rfl, _⟩ := h.row.some (by omega)
      obtain ⟨y0, y1, y2⟩ := h.row.el hkl
      have hs := usd_takes L k hk
      have hd1 : decide ((k : Int) < (L.length : Int)) = true := decide_eq_true (by omega)
      by_cases hc : 0 < (gt L k).ct
      · have hd2 : decide (0 < (gt L k).ct) = true := decide_eq_true hc
        have hS := Lib.hid (show usd (L.take (k + 1)) = usd (L.take k) + 1 by rw [usd_take L k hkl, if_pos hc])
        clear h
        generalize usd (L.take k) = z at *
        go_wp2_with fail
        exact ⟨⟨k + 1, by omega, rfl, by rw [hS.out]; rfl, trivial⟩, by simp [intOf]; omega⟩
      · have hd2 : decide (0 < (gt L k).ct) = false := decide_eq_false hc
        have hS := Lib.hid (show usd (L.take (k + 1)) = usd (L.take k) by rw [usd_take L k hkl, if_neg hc]; rfl)
        clear h
        generalize usd (L.take k) = z at *
        go_wp2_with fail
        exact ⟨⟨k + 1, by omega, rfl, by rw [hS.out], trivial⟩, by simp [intOf]; omega⟩
    · have e : k = L.length := by omega
      subst e
      have hd1 : decide ((L.length : Int) < (L.length : Int)) = false := decide_eq_false (by omega)
      rw [List.take_of_length_le (Nat.le_refl _)]
      clear h
      go_wp2
      go_ret
      exact ⟨rfl, rfl⟩
end Go.Proofs.Ytacanobhfebnaaa
