/-
  CONTRACTS OF THE LAWS' OWN FUNCTIONS ON INTEGERS (beehiveref1): Small.
-/
import Derived.Test.YtbpihjcghmmacaaRefA
namespace Go.Proofs.Ytbpihjcghmmacaa
open Go.RowKit

theorem or_u64' (v x : Nat) (hv : v ≤ 4294967295) (hx : x ≤ 4294967295) : bits .or .u64 ((v : Int) * 4294967296) (x : Int) = ((x + 4294967296 * v : Nat) : Int) := by
  have e : ((v : Int) * 4294967296) = ((v * 4294967296 : Nat) : Int) := by omega
  rw [e, bits_or_u64_nat _ _ (by omega) (by omega)]
  have h := Nat.shiftLeft_add_eq_or_of_lt (a := v) (b := x) (i := 32) (by omega)
  rw [Nat.shiftLeft_eq] at h
  rw [← h]
  congr 1
  omega
theorem val_drop_pred {l : List Nat} {j : Nat} (h0 : 0 < j) (hj : j ≤ l.length) : Lm.val (l.drop (j - 1)) = Lm.lg l (j - 1) + 4294967296 * Lm.val (l.drop j) := by
  obtain ⟨i, rfl⟩ : ∃ i, j = i + 1 := ⟨j - 1, by omega⟩
  rw [Nat.add_sub_cancel, List.drop_eq_getElem_cons (by omega), Lm.val]
  congr 1
  simp only [Lm.lg, List.getD_eq_getElem?_getD]
  rw [List.getElem?_eq_getElem (by omega)]
  rfl

set_option maxHeartbeats 1000000 in
theorem refSmall_no1 (w : World) (g : Bool) (A : Option Addr) (n c : Nat) (l : List Nat) (h : Raw w A n c l) (hm : mayB g l = false) :
    Calls Try.prog 45 #[.agg #[.bool g, .slice A n c]] w (SmallPost w 0 false) := by
  go_enter Try.func45, Try.ntmps45
  go_wp2_with fail
  have hb0 := ((Below.refl w.heap.size w).alloc (Nat.le_refl _) (.cells #[.bool g, .slice A n c] 24))
  have hxa := Box.new w (.bool g) (.slice A n c)
  have hAA := h.below hb0
  generalize w.alloc (.cells #[.bool g, .slice A n c] 24) = W at *
  refine (refMay_b W g A n c l hAA).mono ?_
  rintro e w1 ⟨rfl, hb1⟩
  have ya := hxa.below' hb1
  replace hAA := hAA.below hb1
  replace hb0 := hb0.trans (hb1.mono hb0.size)
  clear hxa hb1
  have x1 := ya.c0
  have x2 := ya.c1
  go_wp2
  go_ret2
  exact ⟨rfl, hb0⟩

set_option maxHeartbeats 1000000 in
theorem refSmall_no2 (w : World) (g : Bool) (A : Option Addr) (n c : Nat) (l : List Nat) (h : Raw w A n c l) (hm : mayB g l = true) (h2 : 2 < n) :
    Calls Try.prog 45 #[.agg #[.bool g, .slice A n c]] w (SmallPost w 0 false) := by
  go_enter Try.func45, Try.ntmps45
  go_wp2_with fail
  have hb0 := ((Below.refl w.heap.size w).alloc (Nat.le_refl _) (.cells #[.bool g, .slice A n c] 24))
  have hxa := Box.new w (.bool g) (.slice A n c)
  have hAA := h.below hb0
  generalize w.alloc (.cells #[.bool g, .slice A n c] 24) = W at *
  refine (refMay_b W g A n c l hAA).mono ?_
  rintro e w1 ⟨rfl, hb1⟩
  have ya := hxa.below' hb1
  replace hAA := hAA.below hb1
  replace hb0 := hb0.trans (hb1.mono hb0.size)
  clear hxa hb1
  have x1 := ya.c0
  have x2 := ya.c1
  have h2' : decide ((2 : Int) < (n : Int)) = true := by rw [decide_eq_true_iff]; omega
  go_wp2
  go_ret2
  exact ⟨rfl, hb0⟩

set_option maxHeartbeats 2000000 in
theorem refSmall_neg_in (w : World) (A : Option Addr) (n c : Nat) (l : List Nat) (h : Raw w A n c l) (hm : mayB true l = true) (h2 : n ≤ 2) (hv60 : Lm.val l ≤ 1152921504606846976) :
    Calls Try.prog 45 #[.agg #[.bool true, .slice A n c]] w (SmallPost w (-(Lm.val l : Int)) true) := by
  have h2' : decide ((2 : Int) < (n : Int)) = false := by rw [decide_eq_false_iff_not]; omega
  have h60 := Lib.hid hv60
  clear hv60
  go_enter Try.func45, Try.ntmps45
  go_wp2_with fail
  have hb0 := ((Below.refl w.heap.size w).alloc (Nat.le_refl _) (.cells #[.bool true, .slice A n c] 24))
  have hxa := Box.new w (.bool true) (.slice A n c)
  have hAA := h.below hb0
  generalize w.alloc (.cells #[.bool true, .slice A n c] 24) = W at *
  refine (refMay_b W true A n c l hAA).mono ?_
  rintro e w1 ⟨rfl, hb1⟩
  have ya := hxa.below' hb1
  replace hAA := hAA.below hb1
  replace hb0 := hb0.trans (hb1.mono hb0.size)
  clear hxa hb1
  have x1 := ya.c0
  have x2 := ya.c1
  go_wp2
  go_loop [4, 5] (fun u i => ∃ (j v : Nat), j ≤ n ∧ i = .int .i64 ((j : Int) - 1) ∧ u = .int .u64 (v : Int) ∧ Hid (v = Lm.val (l.drop j))) (fun _ i => (intOf i + 1).toNat)
  case atStart => exact ⟨n, 0, Nat.le_refl _, rfl, rfl, Lib.hid (by rw [List.drop_of_length_le (by rw [hAA.1.1]; exact Nat.le_refl _)]; rfl)⟩
  case round =>
    obtain ⟨j, v, hj, rfl, rfl, hv⟩ := hrel
    by_cases h0 : 0 < j
    · obtain ⟨b, o, rfl, hb, hcell⟩ := hAA.1.2.2.2 (by omega)
      have hg := hcell (j - 1) (by omega)
      obtain ⟨x, hx⟩ : ∃ x, x = Lm.lg l (j - 1) := ⟨_, rfl⟩
      have hl0 : x ≤ 4294967295 := by rw [hx]; have := Lm.lg_lt hAA.1.2.2.1 (j - 1); omega
      rw [← hx] at hg
      have hX := Lib.hid hx
      have hvl : v ≤ 4294967295 := by
        rw [hv.out]
        have hs : Lm.Small (l.drop j) := fun y hy => hAA.1.2.2.1 y (List.mem_of_mem_drop hy)
        have h1 := Lm.val_lt hs
        have h2 : (l.drop j).length ≤ 1 := by rw [List.length_drop, hAA.1.1]; omega
        have h3 : 4294967296 ^ (l.drop j).length ≤ 4294967296 ^ 1 := Nat.pow_le_pow_right (by decide) h2
        omega
      have hstep := Lib.hid (show x + 4294967296 * v = Lm.val (l.drop (j - 1)) by rw [val_drop_pred h0 (by rw [hAA.1.1]; exact hj), hv.out, hx])
      have hpos : (0 : Int) ≤ (j : Int) - 1 := by omega
      have hpos1 : (1 : Int) ≤ (j : Int) := by omega
      have hpos2 : (j : Int) - 1 < (n : Int) := by omega
      clear hcell hx
      go_wp2
      rw [or_u64' v x hvl hl0]
      exact ⟨⟨j - 1, _, by omega, by go_num, rfl, hstep⟩, by simp [intOf]; omega⟩
    · have hjn : j = 0 := by omega
      subst hjn
      have hvl := Lib.hid (show v = Lm.val l by rw [hv.out]; rfl)
      have h60' := h60.out
      have ht : decide ((v : Int) ≤ 1152921504606846976) = true := by rw [decide_eq_true_iff]; rw [hvl.out]; omega
      have hvb : v ≤ 1152921504606846976 := by rw [hvl.out]; omega
      clear h60'
      go_wp2
      go_ret2
      exact ⟨by rw [hvl.out]; rfl, hb0⟩

set_option maxHeartbeats 2000000 in
theorem refSmall_neg_out (w : World) (A : Option Addr) (n c : Nat) (l : List Nat) (h : Raw w A n c l) (hm : mayB true l = true) (h2 : n ≤ 2) (hv60 : 1152921504606846976 < Lm.val l) :
    Calls Try.prog 45 #[.agg #[.bool true, .slice A n c]] w (SmallPost w (0) false) := by
  have h2' : decide ((2 : Int) < (n : Int)) = false := by rw [decide_eq_false_iff_not]; omega
  have h60 := Lib.hid hv60
  clear hv60
  go_enter Try.func45, Try.ntmps45
  go_wp2_with fail
  have hb0 := ((Below.refl w.heap.size w).alloc (Nat.le_refl _) (.cells #[.bool true, .slice A n c] 24))
  have hxa := Box.new w (.bool true) (.slice A n c)
  have hAA := h.below hb0
  generalize w.alloc (.cells #[.bool true, .slice A n c] 24) = W at *
  refine (refMay_b W true A n c l hAA).mono ?_
  rintro e w1 ⟨rfl, hb1⟩
  have ya := hxa.below' hb1
  replace hAA := hAA.below hb1
  replace hb0 := hb0.trans (hb1.mono hb0.size)
  clear hxa hb1
  have x1 := ya.c0
  have x2 := ya.c1
  go_wp2
  go_loop [4, 5] (fun u i => ∃ (j v : Nat), j ≤ n ∧ i = .int .i64 ((j : Int) - 1) ∧ u = .int .u64 (v : Int) ∧ Hid (v = Lm.val (l.drop j))) (fun _ i => (intOf i + 1).toNat)
  case atStart => exact ⟨n, 0, Nat.le_refl _, rfl, rfl, Lib.hid (by rw [List.drop_of_length_le (by rw [hAA.1.1]; exact Nat.le_refl _)]; rfl)⟩
  case round =>
    obtain ⟨j, v, hj, rfl, rfl, hv⟩ := hrel
    by_cases h0 : 0 < j
    · obtain ⟨b, o, rfl, hb, hcell⟩ := hAA.1.2.2.2 (by omega)
      have hg := hcell (j - 1) (by omega)
      obtain ⟨x, hx⟩ : ∃ x, x = Lm.lg l (j - 1) := ⟨_, rfl⟩
      have hl0 : x ≤ 4294967295 := by rw [hx]; have := Lm.lg_lt hAA.1.2.2.1 (j - 1); omega
      rw [← hx] at hg
      have hX := Lib.hid hx
      have hvl : v ≤ 4294967295 := by
        rw [hv.out]
        have hs : Lm.Small (l.drop j) := fun y hy => hAA.1.2.2.1 y (List.mem_of_mem_drop hy)
        have h1 := Lm.val_lt hs
        have h2 : (l.drop j).length ≤ 1 := by rw [List.length_drop, hAA.1.1]; omega
        have h3 : 4294967296 ^ (l.drop j).length ≤ 4294967296 ^ 1 := Nat.pow_le_pow_right (by decide) h2
        omega
      have hstep := Lib.hid (show x + 4294967296 * v = Lm.val (l.drop (j - 1)) by rw [val_drop_pred h0 (by rw [hAA.1.1]; exact hj), hv.out, hx])
      have hpos : (0 : Int) ≤ (j : Int) - 1 := by omega
      have hpos1 : (1 : Int) ≤ (j : Int) := by omega
      have hpos2 : (j : Int) - 1 < (n : Int) := by omega
      clear hcell hx
      go_wp2
      rw [or_u64' v x hvl hl0]
      exact ⟨⟨j - 1, _, by omega, by go_num, rfl, hstep⟩, by simp [intOf]; omega⟩
    · have hjn : j = 0 := by omega
      subst hjn
      have hvl := Lib.hid (show v = Lm.val l by rw [hv.out]; rfl)
      have h60' := h60.out
      have ht : decide ((v : Int) ≤ 1152921504606846976) = false := by rw [decide_eq_false_iff_not]; rw [hvl.out]; omega
      skip
      clear h60'
      go_wp2
      go_ret2
      exact ⟨rfl, hb0⟩

set_option maxHeartbeats 2000000 in
theorem refSmall_pos_in (w : World) (A : Option Addr) (n c : Nat) (l : List Nat) (h : Raw w A n c l) (hm : mayB false l = true) (h2 : n ≤ 2) (hv60 : Lm.val l ≤ 1152921504606846975) :
    Calls Try.prog 45 #[.agg #[.bool false, .slice A n c]] w (SmallPost w ((Lm.val l : Int)) true) := by
  have h2' : decide ((2 : Int) < (n : Int)) = false := by rw [decide_eq_false_iff_not]; omega
  have h60 := Lib.hid hv60
  clear hv60
  go_enter Try.func45, Try.ntmps45
  go_wp2_with fail
  have hb0 := ((Below.refl w.heap.size w).alloc (Nat.le_refl _) (.cells #[.bool false, .slice A n c] 24))
  have hxa := Box.new w (.bool false) (.slice A n c)
  have hAA := h.below hb0
  generalize w.alloc (.cells #[.bool false, .slice A n c] 24) = W at *
  refine (refMay_b W false A n c l hAA).mono ?_
  rintro e w1 ⟨rfl, hb1⟩
  have ya := hxa.below' hb1
  replace hAA := hAA.below hb1
  replace hb0 := hb0.trans (hb1.mono hb0.size)
  clear hxa hb1
  have x1 := ya.c0
  have x2 := ya.c1
  go_wp2
  go_loop [4, 5] (fun u i => ∃ (j v : Nat), j ≤ n ∧ i = .int .i64 ((j : Int) - 1) ∧ u = .int .u64 (v : Int) ∧ Hid (v = Lm.val (l.drop j))) (fun _ i => (intOf i + 1).toNat)
  case atStart => exact ⟨n, 0, Nat.le_refl _, rfl, rfl, Lib.hid (by rw [List.drop_of_length_le (by rw [hAA.1.1]; exact Nat.le_refl _)]; rfl)⟩
  case round =>
    obtain ⟨j, v, hj, rfl, rfl, hv⟩ := hrel
    by_cases h0 : 0 < j
    · obtain ⟨b, o, rfl, hb, hcell⟩ := hAA.1.2.2.2 (by omega)
      have hg := hcell (j - 1) (by omega)
      obtain ⟨x, hx⟩ : ∃ x, x = Lm.lg l (j - 1) := ⟨_, rfl⟩
      have hl0 : x ≤ 4294967295 := by rw [hx]; have := Lm.lg_lt hAA.1.2.2.1 (j - 1); omega
      rw [← hx] at hg
      have hX := Lib.hid hx
      have hvl : v ≤ 4294967295 := by
        rw [hv.out]
        have hs : Lm.Small (l.drop j) := fun y hy => hAA.1.2.2.1 y (List.mem_of_mem_drop hy)
        have h1 := Lm.val_lt hs
        have h2 : (l.drop j).length ≤ 1 := by rw [List.length_drop, hAA.1.1]; omega
        have h3 : 4294967296 ^ (l.drop j).length ≤ 4294967296 ^ 1 := Nat.pow_le_pow_right (by decide) h2
        omega
      have hstep := Lib.hid (show x + 4294967296 * v = Lm.val (l.drop (j - 1)) by rw [val_drop_pred h0 (by rw [hAA.1.1]; exact hj), hv.out, hx])
      have hpos : (0 : Int) ≤ (j : Int) - 1 := by omega
      have hpos1 : (1 : Int) ≤ (j : Int) := by omega
      have hpos2 : (j : Int) - 1 < (n : Int) := by omega
      clear hcell hx
      go_wp2
      rw [or_u64' v x hvl hl0]
      exact ⟨⟨j - 1, _, by omega, by go_num, rfl, hstep⟩, by simp [intOf]; omega⟩
    · have hjn : j = 0 := by omega
      subst hjn
      have hvl := Lib.hid (show v = Lm.val l by rw [hv.out]; rfl)
      have h60' := h60.out
      have ht : decide ((v : Int) < 1152921504606846976) = true := by rw [decide_eq_true_iff]; rw [hvl.out]; omega
      have hvb : v ≤ 1152921504606846976 := by rw [hvl.out]; omega
      clear h60'
      go_wp2
      go_ret2
      exact ⟨by rw [hvl.out]; rfl, hb0⟩

set_option maxHeartbeats 2000000 in
theorem refSmall_pos_out (w : World) (A : Option Addr) (n c : Nat) (l : List Nat) (h : Raw w A n c l) (hm : mayB false l = true) (h2 : n ≤ 2) (hv60 : 1152921504606846975 < Lm.val l) :
    Calls Try.prog 45 #[.agg #[.bool false, .slice A n c]] w (SmallPost w (0) false) := by
  have h2' : decide ((2 : Int) < (n : Int)) = false := by rw [decide_eq_false_iff_not]; omega
  have h60 := Lib.hid hv60
  clear hv60
  go_enter Try.func45, Try.ntmps45
  go_wp2_with fail
  have hb0 := ((Below.refl w.heap.size w).alloc (Nat.le_refl _) (.cells #[.bool false, .slice A n c] 24))
  have hxa := Box.new w (.bool false) (.slice A n c)
  have hAA := h.below hb0
  generalize w.alloc (.cells #[.bool false, .slice A n c] 24) = W at *
  refine (refMay_b W false A n c l hAA).mono ?_
  rintro e w1 ⟨rfl, hb1⟩
  have ya := hxa.below' hb1
  replace hAA := hAA.below hb1
  replace hb0 := hb0.trans (hb1.mono hb0.size)
  clear hxa hb1
  have x1 := ya.c0
  have x2 := ya.c1
  go_wp2
  go_loop [4, 5] (fun u i => ∃ (j v : Nat), j ≤ n ∧ i = .int .i64 ((j : Int) - 1) ∧ u = .int .u64 (v : Int) ∧ Hid (v = Lm.val (l.drop j))) (fun _ i => (intOf i + 1).toNat)
  case atStart => exact ⟨n, 0, Nat.le_refl _, rfl, rfl, Lib.hid (by rw [List.drop_of_length_le (by rw [hAA.1.1]; exact Nat.le_refl _)]; rfl)⟩
  case round =>
    obtain ⟨j, v, hj, rfl, rfl, hv⟩ := hrel
    by_cases h0 : 0 < j
    · obtain ⟨b, o, rfl, hb, hcell⟩ := hAA.1.2.2.2 (by omega)
      have hg := hcell (j - 1) (by omega)
      obtain ⟨x, hx⟩ : ∃ x, x = Lm.lg l (j - 1) := ⟨_, rfl⟩
      have hl0 : x ≤ 4294967295 := by rw [hx]; have := Lm.lg_lt hAA.1.2.2.1 (j - 1); omega
      rw [← hx] at hg
      have hX := Lib.hid hx
      have hvl : v ≤ 4294967295 := by
        rw [hv.out]
        have hs : Lm.Small (l.drop j) := fun y hy => hAA.1.2.2.1 y (List.mem_of_mem_drop hy)
        have h1 := Lm.val_lt hs
        have h2 : (l.drop j).length ≤ 1 := by rw [List.length_drop, hAA.1.1]; omega
        have h3 : 4294967296 ^ (l.drop j).length ≤ 4294967296 ^ 1 := Nat.pow_le_pow_right (by decide) h2
        omega
      have hstep := Lib.hid (show x + 4294967296 * v = Lm.val (l.drop (j - 1)) by rw [val_drop_pred h0 (by rw [hAA.1.1]; exact hj), hv.out, hx])
      have hpos : (0 : Int) ≤ (j : Int) - 1 := by omega
      have hpos1 : (1 : Int) ≤ (j : Int) := by omega
      have hpos2 : (j : Int) - 1 < (n : Int) := by omega
      clear hcell hx
      go_wp2
      rw [or_u64' v x hvl hl0]
      exact ⟨⟨j - 1, _, by omega, by go_num, rfl, hstep⟩, by simp [intOf]; omega⟩
    · have hjn : j = 0 := by omega
      subst hjn
      have hvl := Lib.hid (show v = Lm.val l by rw [hv.out]; rfl)
      have h60' := h60.out
      have ht : decide ((v : Int) < 1152921504606846976) = false := by rw [decide_eq_false_iff_not]; rw [hvl.out]; omega
      skip
      clear h60'
      go_wp2
      go_ret2
      exact ⟨rfl, hb0⟩

theorem refSmall_yes (w : World) (g : Bool) (A : Option Addr) (n c : Nat) (l : List Nat) (h : Raw w A n c l) (hm : mayB g l = true) :
    Calls Try.prog 45 #[.agg #[.bool g, .slice A n c]] w (SmallPost w (if smallB (sgn g (Lm.val l)) then sgn g (Lm.val l) else 0) (smallB (sgn g (Lm.val l)))) := by
  have hcan := mayB_canon hm
  have hsm := h.1.2.2.1
  by_cases h2 : n ≤ 2
  · cases g with
    | true =>
      by_cases hv : Lm.val l ≤ 1152921504606846976
      · have e : smallB (sgn true (Lm.val l)) = true := by simp [smallB, sgn]; omega
        rw [e, if_pos rfl]
        exact refSmall_neg_in w A n c l h hm h2 hv
      · have e : smallB (sgn true (Lm.val l)) = false := by simp [smallB, sgn]; omega
        rw [e]
        exact refSmall_neg_out w A n c l h hm h2 (by omega)
    | false =>
      by_cases hv : Lm.val l ≤ 1152921504606846975
      · have e : smallB (sgn false (Lm.val l)) = true := by simp [smallB, sgn]; omega
        rw [e, if_pos rfl]
        exact refSmall_pos_in w A n c l h hm h2 hv
      · have e : smallB (sgn false (Lm.val l)) = false := by simp [smallB, sgn]; omega
        rw [e]
        exact refSmall_pos_out w A n c l h hm h2 (by omega)
  · have hbig : ¬ Lm.val l < 4294967296 ^ 2 := fun hlt => by
      have := (Lm.digits_length (Lm.val l) 2).2 hlt
      rw [Lm.digits_val hsm hcan, h.1.1] at this
      exact h2 this
    have e : smallB (sgn g (Lm.val l)) = false := by
      cases g <;> simp [smallB, sgn] <;> omega
    rw [e]
    exact refSmall_no2 w g A n c l h hm (by omega)

end Go.Proofs.Ytbpihjcghmmacaa
