/-
  CONTRACTS OF THE LAWS' OWN FUNCTIONS ON INTEGERS (beehiveref1): Small.
  CONTRACTS OF LendLimbs, KeptLimbs, OverLimbs (beehivelaw0).
  CONTRACTS OF LendLimbs, KeptLimbs, OverLimbs (beehivelaw0): the walks.
-/
import Derived.Test.YtejmmjedognaaaaGreatMv13
namespace Go.Proofs.YtejmmjedognaaaaGreat
open Go.RowKit

set_option maxRecDepth 100000 in
theorem or_u64' (v x : Nat) (hv : v ≤ 4294967295) (hx : x ≤ 4294967295) : bits .or .u64 ((v : Int) * 4294967296) (x : Int) = ((x + 4294967296 * v : Nat) : Int) := by
  have e : ((v : Int) * 4294967296) = ((v * 4294967296 : Nat) : Int) := by omega
  rw [e, bits_or_u64_nat _ _ (by omega) (by omega)]
  have h := Nat.shiftLeft_add_eq_or_of_lt (a := v) (b := x) (i := 32) (by omega)
  rw [Nat.shiftLeft_eq] at h
  rw [← h]
  congr 1
  omega
set_option maxRecDepth 100000 in
theorem val_drop_pred {l : List Nat} {j : Nat} (h0 : 0 < j) (hj : j ≤ l.length) : Lm.val (l.drop (j - 1)) = Lm.lg l (j - 1) + 4294967296 * Lm.val (l.drop j) := by
  obtain ⟨i, rfl⟩ : ∃ i, j = i + 1 := ⟨j - 1, by omega⟩
  rw [Nat.add_sub_cancel, List.drop_eq_getElem_cons (by omega), Lm.val]
  congr 1
  simp only [Lm.lg, List.getD_eq_getElem?_getD]
  rw [List.getElem?_eq_getElem (by omega)]
  rfl

set_option maxRecDepth 100000 in
set_option maxHeartbeats 1000000 in
theorem refSmall_no1 (w : World) (g : Bool) (A : Option Addr) (n c : Nat) (l : List Nat) (h : Raw w A n c l) (hm : mayB g l = false) :
    Calls Tryz.prog 124 #[.agg #[.bool g, .slice A n c]] w (SmallPost w 0 false) := by
  go_enter Tryz.func124, Tryz.ntmps124
  go_wp2_with fail
  have hb0 := ((Below.refl w.heap.size w).alloc (Nat.le_refl _) (.cells #[.bool g, .slice A n c] 37))
  have hxa := Box.new w (.bool g) (.slice A n c)
  have hAA := h.below hb0
  generalize w.alloc (.cells #[.bool g, .slice A n c] 37) = W at *
  refine (refMay_b W g A n c l hAA).mono ?_
  rintro e w1 ⟨rfl, hb1⟩
  have ya := hxa.below' hb1
  replace hAA := hAA.below hb1
  replace hb0 := hb0.trans (hb1.mono hb0.size)
  clear hxa hb1
  have x1 := ya.c0
  have x2 := ya.c1
  go_wp2
  go_ret2
  exact ⟨rfl, hb0⟩

set_option maxRecDepth 100000 in
set_option maxHeartbeats 1000000 in
theorem refSmall_no2 (w : World) (g : Bool) (A : Option Addr) (n c : Nat) (l : List Nat) (h : Raw w A n c l) (hm : mayB g l = true) (h2 : 2 < n) :
    Calls Tryz.prog 124 #[.agg #[.bool g, .slice A n c]] w (SmallPost w 0 false) := by
  go_enter Tryz.func124, Tryz.ntmps124
  go_wp2_with fail
  have hb0 := ((Below.refl w.heap.size w).alloc (Nat.le_refl _) (.cells #[.bool g, .slice A n c] 37))
  have hxa := Box.new w (.bool g) (.slice A n c)
  have hAA := h.below hb0
  generalize w.alloc (.cells #[.bool g, .slice A n c] 37) = W at *
  refine (refMay_b W g A n c l hAA).mono ?_
  rintro e w1 ⟨rfl, hb1⟩
  have ya := hxa.below' hb1
  replace hAA := hAA.below hb1
  replace hb0 := hb0.trans (hb1.mono hb0.size)
  clear hxa hb1
  have x1 := ya.c0
  have x2 := ya.c1
  have h2' : decide ((2 : Int) < (n : Int)) = true := by rw [decide_eq_true_iff]; omega
  go_wp2
  go_ret2
  exact ⟨rfl, hb0⟩

set_option maxRecDepth 100000 in
set_option maxHeartbeats 2000000 in
theorem refSmall_neg_in (w : World) (A : Option Addr) (n c : Nat) (l : List Nat) (h : Raw w A n c l) (hm : mayB true l = true) (h2 : n ≤ 2) (hv60 : Lm.val l ≤ 1152921504606846976) :
    Calls Tryz.prog 124 #[.agg #[.bool true, .slice A n c]] w (SmallPost w (-(Lm.val l : Int)) true) := by
  have h2' : decide ((2 : Int) < (n : Int)) = false := by rw [decide_eq_false_iff_not]; omega
  have h60 := Lib.hid hv60
  clear hv60
  go_enter Tryz.func124, Tryz.ntmps124
  go_wp2_with fail
  have hb0 := ((Below.refl w.heap.size w).alloc (Nat.le_refl _) (.cells #[.bool true, .slice A n c] 37))
  have hxa := Box.new w (.bool true) (.slice A n c)
  have hAA := h.below hb0
  generalize w.alloc (.cells #[.bool true, .slice A n c] 37) = W at *
  refine (refMay_b W true A n c l hAA).mono ?_
  rintro e w1 ⟨rfl, hb1⟩
  have ya := hxa.below' hb1
  replace hAA := hAA.below hb1
  replace hb0 := hb0.trans (hb1.mono hb0.size)
  clear hxa hb1
  have x1 := ya.c0
  have x2 := ya.c1
  go_wp2
  go_loop [4, 5] (fun u i => ∃ (j v : Nat), j ≤ n ∧ i = .int .i64 ((j : Int) - 1) ∧ u = .int .u64 (v : Int) ∧ Hid (v = Lm.val (l.drop j))) (fun _ i => (intOf i + 1).toNat)
  case atStart => exact ⟨n, 0, Nat.le_refl _, rfl, rfl, Lib.hid (by rw [List.drop_of_length_le (by rw [hAA.1.1]; exact Nat.le_refl _)]; rfl)⟩
  case round =>
    obtain ⟨j, v, hj, rfl, rfl, hv⟩ := hrel
    by_cases h0 : 0 < j
    · obtain ⟨b, o, rfl, hb, hcell⟩ := hAA.1.2.2.2 (by omega)
      have hg := hcell (j - 1) (by omega)
      obtain ⟨x, hx⟩ : ∃ x, x = Lm.lg l (j - 1) := ⟨_, rfl⟩
      have hl0 : x ≤ 4294967295 := by rw [hx]; have := Lm.lg_lt hAA.1.2.2.1 (j - 1); omega
      rw [← hx] at hg
      have hX := Lib.hid hx
      have hvl : v ≤ 4294967295 := by
        rw [hv.out]
        have hs : Lm.Small (l.drop j) := fun y hy => hAA.1.2.2.1 y (List.mem_of_mem_drop hy)
        have h1 := Lm.val_lt hs
        have h2 : (l.drop j).length ≤ 1 := by rw [List.length_drop, hAA.1.1]; omega
        have h3 : 4294967296 ^ (l.drop j).length ≤ 4294967296 ^ 1 := Nat.pow_le_pow_right (by decide) h2
        omega
      have hstep := Lib.hid (show x + 4294967296 * v = Lm.val (l.drop (j - 1)) by rw [val_drop_pred h0 (by rw [hAA.1.1]; exact hj), hv.out, hx])
      have hpos : (0 : Int) ≤ (j : Int) - 1 := by omega
      have hpos1 : (1 : Int) ≤ (j : Int) := by omega
      have hpos2 : (j : Int) - 1 < (n : Int) := by omega
      clear hcell hx
      go_wp2
      rw [or_u64' v x hvl hl0]
      exact ⟨⟨j - 1, _, by omega, by go_num, rfl, hstep⟩, by simp [intOf]; omega⟩
    · have hjn : j = 0 := by omega
      subst hjn
      have hvl := Lib.hid (show v = Lm.val l by rw [hv.out]; rfl)
      have h60' := h60.out
      have ht : decide ((v : Int) ≤ 1152921504606846976) = true := by rw [decide_eq_true_iff]; rw [hvl.out]; omega
      have hvb : v ≤ 1152921504606846976 := by rw [hvl.out]; omega
      clear h60'
      go_wp2
      go_ret2
      exact ⟨by rw [hvl.out]; rfl, hb0⟩

set_option maxRecDepth 100000 in
set_option maxHeartbeats 2000000 in
theorem refSmall_neg_out (w : World) (A : Option Addr) (n c : Nat) (l : List Nat) (h : Raw w A n c l) (hm : mayB true l = true) (h2 : n ≤ 2) (hv60 : 1152921504606846976 < Lm.val l) :
    Calls Tryz.prog 124 #[.agg #[.bool true, .slice A n c]] w (SmallPost w (0) false) := by
  have h2' : decide ((2 : Int) < (n : Int)) = false := by rw [decide_eq_false_iff_not]; omega
  have h60 := Lib.hid hv60
  clear hv60
  go_enter Tryz.func124, Tryz.ntmps124
  go_wp2_with fail
  have hb0 := ((Below.refl w.heap.size w).alloc (Nat.le_refl _) (.cells #[.bool true, .slice A n c] 37))
  have hxa := Box.new w (.bool true) (.slice A n c)
  have hAA := h.below hb0
  generalize w.alloc (.cells #[.bool true, .slice A n c] 37) = W at *
  refine (refMay_b W true A n c l hAA).mono ?_
  rintro e w1 ⟨rfl, hb1⟩
  have ya := hxa.below' hb1
  replace hAA := hAA.below hb1
  replace hb0 := hb0.trans (hb1.mono hb0.size)
  clear hxa hb1
  have x1 := ya.c0
  have x2 := ya.c1
  go_wp2
  go_loop [4, 5] (fun u i => ∃ (j v : Nat), j ≤ n ∧ i = .int .i64 ((j : Int) - 1) ∧ u = .int .u64 (v : Int) ∧ Hid (v = Lm.val (l.drop j))) (fun _ i => (intOf i + 1).toNat)
  case atStart => exact ⟨n, 0, Nat.le_refl _, rfl, rfl, Lib.hid (by rw [List.drop_of_length_le (by rw [hAA.1.1]; exact Nat.le_refl _)]; rfl)⟩
  case round =>
    obtain ⟨j, v, hj, rfl, rfl, hv⟩ := hrel
    by_cases h0 : 0 < j
    · obtain ⟨b, o, rfl, hb, hcell⟩ := hAA.1.2.2.2 (by omega)
      have hg := hcell (j - 1) (by omega)
      obtain ⟨x, hx⟩ : ∃ x, x = Lm.lg l (j - 1) := ⟨_, rfl⟩
      have hl0 : x ≤ 4294967295 := by rw [hx]; have := Lm.lg_lt hAA.1.2.2.1 (j - 1); omega
      rw [← hx] at hg
      have hX := Lib.hid hx
      have hvl : v ≤ 4294967295 := by
        rw [hv.out]
        have hs : Lm.Small (l.drop j) := fun y hy => hAA.1.2.2.1 y (List.mem_of_mem_drop hy)
        have h1 := Lm.val_lt hs
        have h2 : (l.drop j).length ≤ 1 := by rw [List.length_drop, hAA.1.1]; omega
        have h3 : 4294967296 ^ (l.drop j).length ≤ 4294967296 ^ 1 := Nat.pow_le_pow_right (by decide) h2
        omega
      have hstep := Lib.hid (show x + 4294967296 * v = Lm.val (l.drop (j - 1)) by rw [val_drop_pred h0 (by rw [hAA.1.1]; exact hj), hv.out, hx])
      have hpos : (0 : Int) ≤ (j : Int) - 1 := by omega
      have hpos1 : (1 : Int) ≤ (j : Int) := by omega
      have hpos2 : (j : Int) - 1 < (n : Int) := by omega
      clear hcell hx
      go_wp2
      rw [or_u64' v x hvl hl0]
      exact ⟨⟨j - 1, _, by omega, by go_num, rfl, hstep⟩, by simp [intOf]; omega⟩
    · have hjn : j = 0 := by omega
      subst hjn
      have hvl := Lib.hid (show v = Lm.val l by rw [hv.out]; rfl)
      have h60' := h60.out
      have ht : decide ((v : Int) ≤ 1152921504606846976) = false := by rw [decide_eq_false_iff_not]; rw [hvl.out]; omega
      skip
      clear h60'
      go_wp2
      go_ret2
      exact ⟨rfl, hb0⟩

set_option maxRecDepth 100000 in
set_option maxHeartbeats 2000000 in
theorem refSmall_pos_in (w : World) (A : Option Addr) (n c : Nat) (l : List Nat) (h : Raw w A n c l) (hm : mayB false l = true) (h2 : n ≤ 2) (hv60 : Lm.val l ≤ 1152921504606846975) :
    Calls Tryz.prog 124 #[.agg #[.bool false, .slice A n c]] w (SmallPost w ((Lm.val l : Int)) true) := by
  have h2' : decide ((2 : Int) < (n : Int)) = false := by rw [decide_eq_false_iff_not]; omega
  have h60 := Lib.hid hv60
  clear hv60
  go_enter Tryz.func124, Tryz.ntmps124
  go_wp2_with fail
  have hb0 := ((Below.refl w.heap.size w).alloc (Nat.le_refl _) (.cells #[.bool false, .slice A n c] 37))
  have hxa := Box.new w (.bool false) (.slice A n c)
  have hAA := h.below hb0
  generalize w.alloc (.cells #[.bool false, .slice A n c] 37) = W at *
  refine (refMay_b W false A n c l hAA).mono ?_
  rintro e w1 ⟨rfl, hb1⟩
  have ya := hxa.below' hb1
  replace hAA := hAA.below hb1
  replace hb0 := hb0.trans (hb1.mono hb0.size)
  clear hxa hb1
  have x1 := ya.c0
  have x2 := ya.c1
  go_wp2
  go_loop [4, 5] (fun u i => ∃ (j v : Nat), j ≤ n ∧ i = .int .i64 ((j : Int) - 1) ∧ u = .int .u64 (v : Int) ∧ Hid (v = Lm.val (l.drop j))) (fun _ i => (intOf i + 1).toNat)
  case atStart => exact ⟨n, 0, Nat.le_refl _, rfl, rfl, Lib.hid (by rw [List.drop_of_length_le (by rw [hAA.1.1]; exact Nat.le_refl _)]; rfl)⟩
  case round =>
    obtain ⟨j, v, hj, rfl, rfl, hv⟩ := hrel
    by_cases h0 : 0 < j
    · obtain ⟨b, o, rfl, hb, hcell⟩ := hAA.1.2.2.2 (by omega)
      have hg := hcell (j - 1) (by omega)
      obtain ⟨x, hx⟩ : ∃ x, x = Lm.lg l (j - 1) := ⟨_, rfl⟩
      have hl0 : x ≤ 4294967295 := by rw [hx]; have := Lm.lg_lt hAA.1.2.2.1 (j - 1); omega
      rw [← hx] at hg
      have hX := Lib.hid hx
      have hvl : v ≤ 4294967295 := by
        rw [hv.out]
        have hs : Lm.Small (l.drop j) := fun y hy => hAA.1.2.2.1 y (List.mem_of_mem_drop hy)
        have h1 := Lm.val_lt hs
        have h2 : (l.drop j).length ≤ 1 := by rw [List.length_drop, hAA.1.1]; omega
        have h3 : 4294967296 ^ (l.drop j).length ≤ 4294967296 ^ 1 := Nat.pow_le_pow_right (by decide) h2
        omega
      have hstep := Lib.hid (show x + 4294967296 * v = Lm.val (l.drop (j - 1)) by rw [val_drop_pred h0 (by rw [hAA.1.1]; exact hj), hv.out, hx])
      have hpos : (0 : Int) ≤ (j : Int) - 1 := by omega
      have hpos1 : (1 : Int) ≤ (j : Int) := by omega
      have hpos2 : (j : Int) - 1 < (n : Int) := by omega
      clear hcell hx
      go_wp2
      rw [or_u64' v x hvl hl0]
      exact ⟨⟨j - 1, _, by omega, by go_num, rfl, hstep⟩, by simp [intOf]; omega⟩
    · have hjn : j = 0 := by omega
      subst hjn
      have hvl := Lib.hid (show v = Lm.val l by rw [hv.out]; rfl)
      have h60' := h60.out
      have ht : decide ((v : Int) < 1152921504606846976) = true := by rw [decide_eq_true_iff]; rw [hvl.out]; omega
      have hvb : v ≤ 1152921504606846976 := by rw [hvl.out]; omega
      clear h60'
      go_wp2
      go_ret2
      exact ⟨by rw [hvl.out]; rfl, hb0⟩

set_option maxRecDepth 100000 in
set_option maxHeartbeats 2000000 in
theorem refSmall_pos_out (w : World) (A : Option Addr) (n c : Nat) (l : List Nat) (h : Raw w A n c l) (hm : mayB false l = true) (h2 : n ≤ 2) (hv60 : 1152921504606846975 < Lm.val l) :
    Calls Tryz.prog 124 #[.agg #[.bool false, .slice A n c]] w (SmallPost w (0) false) := by
  have h2' : decide ((2 : Int) < (n : Int)) = false := by rw [decide_eq_false_iff_not]; omega
  have h60 := Lib.hid hv60
  clear hv60
  go_enter Tryz.func124, Tryz.ntmps124
  go_wp2_with fail
  have hb0 := ((Below.refl w.heap.size w).alloc (Nat.le_refl _) (.cells #[.bool false, .slice A n c] 37))
  have hxa := Box.new w (.bool false) (.slice A n c)
  have hAA := h.below hb0
  generalize w.alloc (.cells #[.bool false, .slice A n c] 37) = W at *
  refine (refMay_b W false A n c l hAA).mono ?_
  rintro e w1 ⟨rfl, hb1⟩
  have ya := hxa.below' hb1
  replace hAA := hAA.below hb1
  replace hb0 := hb0.trans (hb1.mono hb0.size)
  clear hxa hb1
  have x1 := ya.c0
  have x2 := ya.c1
  go_wp2
  go_loop [4, 5] (fun u i => ∃ (j v : Nat), j ≤ n ∧ i = .int .i64 ((j : Int) - 1) ∧ u = .int .u64 (v : Int) ∧ Hid (v = Lm.val (l.drop j))) (fun _ i => (intOf i + 1).toNat)
  case atStart => exact ⟨n, 0, Nat.le_refl _, rfl, rfl, Lib.hid (by rw [List.drop_of_length_le (by rw [hAA.1.1]; exact Nat.le_refl _)]; rfl)⟩
  case round =>
    obtain ⟨j, v, hj, rfl, rfl, hv⟩ := hrel
    by_cases h0 : 0 < j
    · obtain ⟨b, o, rfl, hb, hcell⟩ := hAA.1.2.2.2 (by omega)
      have hg := hcell (j - 1) (by omega)
      obtain ⟨x, hx⟩ : ∃ x, x = Lm.lg l (j - 1) := ⟨_, rfl⟩
      have hl0 : x ≤ 4294967295 := by rw [hx]; have := Lm.lg_lt hAA.1.2.2.1 (j - 1); omega
      rw [← hx] at hg
      have hX := Lib.hid hx
      have hvl : v ≤ 4294967295 := by
        rw [hv.out]
        have hs : Lm.Small (l.drop j) := fun y hy => hAA.1.2.2.1 y (List.mem_of_mem_drop hy)
        have h1 := Lm.val_lt hs
        have h2 : (l.drop j).length ≤ 1 := by rw [List.length_drop, hAA.1.1]; omega
        have h3 : 4294967296 ^ (l.drop j).length ≤ 4294967296 ^ 1 := Nat.pow_le_pow_right (by decide) h2
        omega
      have hstep := Lib.hid (show x + 4294967296 * v = Lm.val (l.drop (j - 1)) by rw [val_drop_pred h0 (by rw [hAA.1.1]; exact hj), hv.out, hx])
      have hpos : (0 : Int) ≤ (j : Int) - 1 := by omega
      have hpos1 : (1 : Int) ≤ (j : Int) := by omega
      have hpos2 : (j : Int) - 1 < (n : Int) := by omega
      clear hcell hx
      go_wp2
      rw [or_u64' v x hvl hl0]
      exact ⟨⟨j - 1, _, by omega, by go_num, rfl, hstep⟩, by simp [intOf]; omega⟩
    · have hjn : j = 0 := by omega
      subst hjn
      have hvl := Lib.hid (show v = Lm.val l by rw [hv.out]; rfl)
      have h60' := h60.out
      have ht : decide ((v : Int) < 1152921504606846976) = false := by rw [decide_eq_false_iff_not]; rw [hvl.out]; omega
      skip
      clear h60'
      go_wp2
      go_ret2
      exact ⟨rfl, hb0⟩

set_option maxRecDepth 100000 in
theorem refSmall_yes (w : World) (g : Bool) (A : Option Addr) (n c : Nat) (l : List Nat) (h : Raw w A n c l) (hm : mayB g l = true) :
    Calls Tryz.prog 124 #[.agg #[.bool g, .slice A n c]] w (SmallPost w (if smallB (sgn g (Lm.val l)) then sgn g (Lm.val l) else 0) (smallB (sgn g (Lm.val l)))) := by
  have hcan := mayB_canon hm
  have hsm := h.1.2.2.1
  by_cases h2 : n ≤ 2
  · cases g with
    | true =>
      by_cases hv : Lm.val l ≤ 1152921504606846976
      · have e : smallB (sgn true (Lm.val l)) = true := by simp [smallB, sgn]; omega
        rw [e, if_pos rfl]
        exact refSmall_neg_in w A n c l h hm h2 hv
      · have e : smallB (sgn true (Lm.val l)) = false := by simp [smallB, sgn]; omega
        rw [e]
        exact refSmall_neg_out w A n c l h hm h2 (by omega)
    | false =>
      by_cases hv : Lm.val l ≤ 1152921504606846975
      · have e : smallB (sgn false (Lm.val l)) = true := by simp [smallB, sgn]; omega
        rw [e, if_pos rfl]
        exact refSmall_pos_in w A n c l h hm h2 hv
      · have e : smallB (sgn false (Lm.val l)) = false := by simp [smallB, sgn]; omega
        rw [e]
        exact refSmall_pos_out w A n c l h hm h2 (by omega)
  · have hbig : ¬ Lm.val l < 4294967296 ^ 2 := fun hlt => by
      have := (Lm.digits_length (Lm.val l) 2).2 hlt
      rw [Lm.digits_val hsm hcan, h.1.1] at this
      exact h2 this
    have e : smallB (sgn g (Lm.val l)) = false := by
      cases g <;> simp [smallB, sgn] <;> omega
    rw [e]
    exact refSmall_no2 w g A n c l h hm (by omega)

end Go.Proofs.YtejmmjedognaaaaGreat

namespace Go.Proofs.YtejmmjedognaaaaGreat
open Go.RowKit

set_option maxRecDepth 100000 in
/-- append(row, limbs...): what it changes is the row alone. -/
theorem append_grown (w : World) (base : Nat) (A0 : Option Addr) (n0 c0 : Nat) (l0 : List Nat) (hown : Own w base A0 n0 c0 l0) (ad : Addr) (n c : Nat) (l : List Nat) (h : Lim w (some ad) n c l) (hn : n0 + n ≤ 100000) (hbase : base ≤ w.heap.size) (ty : TypeId) :
    ∃ v' w', (Builtin.append_ #[35, 35] ty #[.slice A0 n0 c0, .slice (some ad) n c]).run Tryz.prog w = .ok v' w' ∧ w.grownBy w' (Value.slice A0 n0 c0).ownBlock := by
  obtain ⟨i, hi, hz, hs, hb⟩ := info_limb'
  have hcells : ∀ j u, (limbVs l)[j]? = some u → w.cell? (ad.add j) = some u := by
    intro j u hu
    have hj : j < l.length := by
      rcases Nat.lt_or_ge j l.length with hj | hj
      · exact hj
      · rw [List.getElem?_eq_none (by rw [limbVs_len]; exact hj)] at hu; cases hu
    obtain ⟨b, o, e, _, hc⟩ := h.2.2.2 (by have := h.1; omega)
    injection e with e
    subst e
    rw [limbVs_get hj] at hu
    injection hu with hu
    subst hu
    have hadd : (⟨b, o, none⟩ : Addr).add j = ⟨b, o + j, none⟩ := by unfold Addr.add; split <;> simp_all
    rw [hadd]
    exact hc j (by have := h.1; omega)
  have h1 : ∀ u ∈ limbVs l, u.oneCell' = true := by
    intro u hu
    simp only [limbVs, List.mem_map] at hu
    obtain ⟨x, _, rfl⟩ := hu
    rfl
  obtain ⟨v', w', hrun, _, hg, _⟩ := run_append_own (P := Tryz.prog) w base 35 ty 128 i (.int .u32 0) 1 4 und_limbs hi hz hs hb rfl (by decide) (.slice A0 n0 c0) n0 (limbVs l0) hown.2.2 ad n c (limbVs l) (by rw [limbVs_len, h.1]; omega) hcells h1 (by unfold maxLen; omega) (by omega) hbase
  exact ⟨v', w', hrun, hg⟩

/-- Block g is a row of limbs of a given room, none of them frozen. -/
def Rw (w : World) (g N : Nat) (cs : Array Value) : Prop := w.heap[g]? = some (.cells cs 128 (0, 0)) ∧ cs.size = N
section
variable {w w' : World} {g N : Nat} {cs : Array Value}
set_option maxRecDepth 100000 in
theorem Rw.lt (h : Rw w g N cs) : g < w.heap.size := (Array.getElem?_eq_some_iff.1 h.1).1
set_option maxRecDepth 100000 in
theorem Rw.cell (h : Rw w g N cs) (i : Nat) : w.cell? ⟨g, i, none⟩ = cs[i]? := cell_of_row w g i cs _ (0, 0) h.1
set_option maxRecDepth 100000 in
theorem Rw.fz (h : Rw w g N cs) (i : Nat) : w.frozen? ⟨g, i, none⟩ = false := by have := h.1; simp [World.frozen?, this]
set_option maxRecDepth 100000 in
theorem Rw.some (h : Rw w g N cs) {i : Nat} (hi : i < N) : ∃ u, w.cell? ⟨g, i, none⟩ = some u := by
  rw [h.cell, Array.getElem?_eq_getElem (by rw [h.2]; exact hi)]
  exact ⟨_, rfl⟩
set_option maxRecDepth 100000 in
theorem Rw.set (h : Rw w g N cs) (i : Nat) (u : Value) : Rw (w.setCell ⟨g, i, none⟩ u) g N (cs.setIfInBounds i u) := by
  refine ⟨?_, by rw [Array.size_setIfInBounds]; exact h.2⟩
  have := h.1
  simp [World.setCell, Array.getElem?_modify, this]
set_option maxRecDepth 100000 in
theorem Rw.drewN (h : Rw w g N cs) (q : Nat) : Rw (w.drewN q) g N cs := h
end

/-- Limbs that are lent: behind them stand three marks. -/
def Lent (w : World) (g n : Nat) (l : List Nat) : Prop :=
  l.length = n ∧ Lm.Small l ∧ g < w.heap.size ∧ (∀ j, j < n → w.cell? ⟨g, j, none⟩ = some (.int .u32 (Lm.lg l j : Nat))) ∧ ∀ i, i < 3 → w.cell? ⟨g, n + i, none⟩ = some (.int .u32 30583)
set_option maxRecDepth 100000 in
theorem Lent.raw {w : World} {g n : Nat} {l : List Nat} (h : Lent w g n l) (hn : n ≤ 1000) : Raw w (some ⟨g, 0, none⟩) n (n + 3) l :=
  ⟨⟨h.1, by omega, h.2.1, fun _ => ⟨g, 0, rfl, h.2.2.1, fun j hj => by rw [Nat.zero_add]; exact h.2.2.2.1 j hj⟩⟩, by unfold maxLen; omega⟩
set_option maxRecDepth 100000 in
theorem Lent.keep {w w' : World} {g n : Nat} {l : List Nat} (h : Lent w g n l) (hs : w.heap.size ≤ w'.heap.size) (hb : w'.heap[g]? = w.heap[g]?) : Lent w' g n l :=
  ⟨h.1, h.2.1, Nat.lt_of_lt_of_le h.2.2.1 hs, fun j hj => (World.cell?_of_block (w := w) (a := ⟨g, j, none⟩) hb).trans (h.2.2.2.1 j hj), fun i hi => (World.cell?_of_block (w := w) (a := ⟨g, n + i, none⟩) hb).trans (h.2.2.2.2 i hi)⟩
set_option maxRecDepth 100000 in
theorem Lent.below {w w' : World} {g n : Nat} {l : List Nat} (h : Lent w g n l) (hb : Below w.heap.size w w') : Lent w' g n l := h.keep hb.size (hb.block g h.2.2.1)

/-- What LendLimbs leaves. -/
def LendPost (w : World) (n : Nat) (l : List Nat) (e : Ending) (w' : World) : Prop :=
  ∃ g, e = .returned (.slice (some ⟨g, 0, none⟩) n (n + 3)) ∧ Lent w' g n l ∧ w.heap.size ≤ g ∧ Below w.heap.size w w' ∧ ∃ cs f, w'.heap[g]? = some (.cells cs 128 f)

set_option maxRecDepth 100000 in
theorem make_lend (n : Nat) (hn : n ≤ 1000) (w : World) :
    (Instr.makeSlice 35 (.int .i64 0) (.int .i64 ((n : Int) + 3))).run Tryz.prog w = .ok (.slice (some ⟨w.heap.size, 0, none⟩) 0 (n + 3)) (w.alloc (.cells (arr (List.replicate (n + 3) 0)) 128)) := by
  obtain ⟨i, hi, hz, hs, hb⟩ := info_limb'
  have h := run_make (P := Tryz.prog) w 35 128 i (.int .u32 0) und_limbs hi hz .i64 .i64 0 ((n : Int) + 3) (by omega) (by omega) (by rw [hb]; omega) (by omega)
  rw [hs] at h
  have e : ((n : Int) + 3).toNat = n + 3 := by omega
  rw [e] at h
  simp only [Int.toNat_zero] at h
  rw [h, arr_made]

set_option maxRecDepth 100000 in
/-- The append of LendLimbs: it fits. -/
theorem append_lend (w : World) (g n : Nat) (hg : Own w w.heap.size none 0 0 [] → Rw w g (n + 3) (arr (List.replicate (n + 3) 0))) (A : Option Addr) (c : Nat) (l : List Nat) (h : Lim w A n c l) (hn : n ≤ 1000) (ty : TypeId) :
    ∃ w' cs, (Builtin.append_ #[35, 35] ty #[.slice (some ⟨g, 0, none⟩) 0 (n + 3), .slice A n c]).run Tryz.prog w = .ok (.slice (some ⟨g, 0, none⟩) n (n + 3)) w' ∧ Rw w' g (n + 3) cs ∧ (∀ j, j < n → cs[j]? = some (.int .u32 (Lm.lg l j : Nat))) ∧ w.grownBy w' (some g) := by
  have hr := hg (Own.nil _ _)
  obtain ⟨i, hi, hz, hs, hb⟩ := info_limb'
  have hown : w.ownsRow g 128 1 (.slice (some ⟨g, 0, none⟩) 0 (n + 3)) 0 [] := ⟨by simp, .inr ⟨g, n + 3, _, rfl, Nat.le_refl _, hr.1, Nat.zero_le _, by unfold maxLen; omega, by rw [hr.2]; omega, by simp⟩⟩
  cases A with
  | none =>
    have h0 : n = 0 := by
      rcases Nat.eq_zero_or_pos n with h0 | h0
      · exact h0
      · obtain ⟨b, o, e, _⟩ := h.2.2.2 h0
        cases e
    subst h0
    refine ⟨w, _, ?_, hr, fun j hj => by omega, World.grownBy.refl _ _⟩
    simp [Builtin.append_, run_underlying und_limbs, sizeOf, typeInfo, hi, Builtin.lenOf, Builtin.firstCells, storeCells]
  | some ad =>
    have hcells : ∀ j u, (limbVs l)[j]? = some u → w.cell? (ad.add j) = some u := by
      intro j u hu
      have hj : j < l.length := by
        rcases Nat.lt_or_ge j l.length with hj | hj
        · exact hj
        · rw [List.getElem?_eq_none (by rw [limbVs_len]; exact hj)] at hu; cases hu
      obtain ⟨b, o, e, _, hc⟩ := h.2.2.2 (by have := h.1; omega)
      injection e with e
      subst e
      rw [limbVs_get hj] at hu
      injection hu with hu
      subst hu
      have hadd : (⟨b, o, none⟩ : Addr).add j = ⟨b, o + j, none⟩ := by unfold Addr.add; split <;> simp_all
      rw [hadd]
      exact hc j (by have := h.1; omega)
    have h1 : ∀ u ∈ limbVs l, u.oneCell' = true := by
      intro u hu
      simp only [limbVs, List.mem_map] at hu
      obtain ⟨x, _, rfl⟩ := hu
      rfl
    obtain ⟨w', hrun, ho, hgr⟩ := run_append_fits (P := Tryz.prog) w g 35 ty 128 i 1 und_limbs hi hs g 0 (n + 3) [] hown ad n c (limbVs l) (by rw [limbVs_len, h.1]; omega) hcells h1 (by omega)
    rw [Nat.zero_add] at hrun ho
    rcases ho.2 with ⟨hv, _⟩ | ⟨g', cap, cur, hv, _, hh, _, _, hsz, htk⟩
    · cases hv
    · injection hv with hA _ hc
      injection hA with hA
      injection hA with hA
      subst hA hc
      refine ⟨w', cur, hrun, ⟨hh, by omega⟩, fun j hj => ?_, hgr⟩
      have e : (cur.toList.take (n * 1))[j]? = (limbVs l)[j]? := by rw [htk, List.nil_append]
      rw [List.getElem?_take_of_lt (by omega), limbVs_get (by rw [h.1]; exact hj)] at e
      simpa using e

end Go.Proofs.YtejmmjedognaaaaGreat

namespace Go.Proofs.YtejmmjedognaaaaGreat
open Go.RowKit

set_option maxRecDepth 100000 in
theorem append_rw (w : World) (g n N : Nat) (cs : Array Value) (hr : Rw w g N cs) (hn : n ≤ N) (hN : N ≤ maxLen) (hn' : n ≤ 1000) (ty : TypeId) :
    ∃ v' w', (Builtin.append_ #[35, 35] ty #[.slice (some ⟨g, 0, none⟩) n N, .slice (some ⟨w.heap.size, 0, none⟩) 1 1]).run Tryz.prog (w.alloc (.cells #[.int .u32 61166] 128)) = .ok v' w' ∧ w.grownBy w' (some g) := by
  obtain ⟨i, hi, hz, hs, hb⟩ := info_limb'
  have hr' : Rw (w.alloc (.cells #[.int .u32 61166] 128)) g N cs := ⟨(Below.heap_alloc w _ g hr.lt).trans hr.1, hr.2⟩
  have hown : (w.alloc (.cells #[.int .u32 61166] 128)).ownsRow g 128 1 (.slice (some ⟨g, 0, none⟩) n N) n (cs.toList.take n) := ⟨by rw [List.length_take, Array.length_toList, hr.2]; omega, .inr ⟨g, N, cs, rfl, Nat.le_refl _, hr'.1, hn, hN, by rw [hr.2]; omega, by rw [Nat.mul_one]⟩⟩
  obtain ⟨v', w', hrun, _, hg, _⟩ := run_append_own (P := Tryz.prog) (w.alloc (.cells #[.int .u32 61166] 128)) g 35 ty 128 i (.int .u32 0) 1 4 und_limbs hi hz hs hb rfl (by decide) (.slice (some ⟨g, 0, none⟩) n N) n (cs.toList.take n) hown ⟨w.heap.size, 0, none⟩ 1 1 [.int .u32 61166] rfl (by
    intro j u hu
    rcases j with _ | j
    · simp at hu
      subst hu
      show (w.alloc _).cell? ⟨w.heap.size, 0, none⟩ = _
      rw [World.cell?_alloc_at _ _ _ _ rfl]
      rfl
    · simp at hu) (by intro u hu; simp at hu; subst hu; rfl) (by unfold maxLen; omega) (by omega) (by have := hr'.lt; omega)
  refine ⟨v', w', hrun, ?_⟩
  have ha := World.grownBy_alloc w (.cells #[.int .u32 61166] 128) (some g)
  exact ⟨hg.os.trans ha.os, hg.tape.trans ha.tape, hg.output.trans ha.output, Nat.le_trans ha.size hg.size, fun k hk hne => (hg.block k (Nat.lt_of_lt_of_le hk ha.size) hne).trans (ha.block k hk hne)⟩
set_option maxRecDepth 100000 in
theorem grown_set {w w' : World} {g i : Nat} {u : Value} (h : w.grownBy w' (some g)) : w.grownBy (w'.setCell ⟨g, i, none⟩ u) (some g) :=
  ⟨h.os, h.tape, h.output, by simpa [World.setCell] using h.size, fun k hk hne => (Below.heap_setCell w' ⟨g, i, none⟩ u k (fun e => hne (by rw [e]))).trans (h.block k hk hne)⟩
set_option maxRecDepth 100000 in
theorem grown_tr {a b c : World} {row : Option Nat} (h : a.grownBy b row) (k : b.grownBy c row) : a.grownBy c row :=
  ⟨k.os.trans h.os, k.tape.trans h.tape, k.output.trans h.output, Nat.le_trans h.size k.size, fun i hi hne => (k.block i (Nat.lt_of_lt_of_le hi h.size) hne).trans (h.block i hi hne)⟩

set_option maxRecDepth 100000 in
set_option maxHeartbeats 1000000 in
theorem over_some (w : World) (g n c : Nat) (cs0 : Array Value) (h : Rw w g c cs0) (hnc : n ≤ c) (hc : c ≤ maxLen) (hn : n ≤ 1000) :
    Calls Tryz.prog 42 #[.slice (some ⟨g, 0, none⟩) n c] w fun e w' => e = .returned (.tuple #[]) ∧ w.grownBy w' (some g) := by
  go_enter Tryz.func42, Tryz.ntmps42
  go_wp2
  go_loopw [2] (fun i w' => ∃ (j : Nat) (cs : Array Value), j ≤ n ∧ i = .int .i64 (j : Int) ∧ Rw w' g c cs ∧ w.grownBy w' (some g)) (fun i _ => n - (intOf i).toNat)
  case atStart => exact ⟨0, cs0, by omega, rfl, h, World.grownBy.refl _ _⟩
  case round =>
    obtain ⟨j, cs, hj, rfl, hRw, hgr⟩ := hrel
    by_cases h3 : j < n
    · obtain ⟨u, hu⟩ := hRw.some (i := j) (by omega)
      have hf := hRw.fz j
      go_wp2
      exact ⟨⟨j + 1, _, by omega, by go_num, hRw.set j _, grown_set hgr⟩, by simp [intOf]; omega⟩
    · obtain ⟨v', w1, hrun, hg1⟩ := append_rw wr g n c cs hRw hnc hc hn 35
      have hR := Lib.hid hrun
      clear hrun
      go_wp2_with (at_builtin; refine wpList_append_run rfl _ _ _ rfl _ _ _ rfl rfl hR.out ?_)
      go_end0
      exact ⟨rfl, grown_tr hgr hg1⟩

set_option maxRecDepth 100000 in
set_option maxHeartbeats 1000000 in
theorem over_none (w : World) (c : Nat) (hc : c = 0) :
    Calls Tryz.prog 42 #[.slice none 0 c] w fun e w' => e = .returned (.tuple #[]) ∧ w.grownBy w' none := by
  subst hc
  obtain ⟨v', w1, hrun, hg1⟩ := append_grown (w.alloc (.cells #[.int .u32 61166] 128)) 0 none 0 0 [] (Own.nil _ _) ⟨w.heap.size, 0, none⟩ 1 1 [61166] (Lim.new w [61166] (by intro x hx; simp at hx; omega)) (by omega) (Nat.zero_le _) 35
  have hR := Lib.hid hrun
  clear hrun
  go_enter Tryz.func42, Tryz.ntmps42
  go_wp2
  go_loop [2] (fun i => i = .int .i64 0) (fun _ => 0)
  case atStart => rfl
  case round =>
    subst hrel
    go_wp2_with (at_builtin; refine wpList_append_run rfl _ _ _ rfl _ _ _ rfl rfl hR.out ?_)
    go_end0
    exact ⟨rfl, grown_tr (World.grownBy_alloc w _ none) hg1⟩

end Go.Proofs.YtejmmjedognaaaaGreat
