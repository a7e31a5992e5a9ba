/-
  CONTRACTS OF num.Of, Small.
-/
import Derived.Test.YtbpihjcghmmacaaNumD
namespace Go.Proofs.Ytbpihjcghmmacaa
open Go.RowKit

theorem of_limbs_neg (z : Int) (h1 : -9223372036854775808 ≤ z) (h2 : z < 0) :
    ∃ t : List Nat, (#[Value.int .u32 (IntKind.u64.wrap (-IntKind.u64.wrap z) % 4294967296), Value.int .u32 (IntKind.u64.wrap (-IntKind.u64.wrap z) / 4294967296 % 4294967296)] : Array Value) = arr t ∧ t.length = 2 ∧ Lm.Small t ∧ Lm.val t = z.natAbs := by
  refine ⟨[z.natAbs % 4294967296, z.natAbs / 4294967296], ?_, rfl, ?_, ?_⟩
  · have e1 : IntKind.u64.wrap (-IntKind.u64.wrap z) % 4294967296 = ((z.natAbs % 4294967296 : Nat) : Int) := by rw [IntKind.wrap_u64, IntKind.wrap_u64]; omega
    have e2 : IntKind.u64.wrap (-IntKind.u64.wrap z) / 4294967296 % 4294967296 = ((z.natAbs / 4294967296 : Nat) : Int) := by rw [IntKind.wrap_u64, IntKind.wrap_u64]; omega
    rw [e1, e2]
    rfl
  · intro x hx
    simp at hx
    omega
  · simp only [Lm.val]; omega
theorem of_limbs_pos (z : Int) (h1 : 0 ≤ z) (h2 : z ≤ 9223372036854775807) :
    ∃ t : List Nat, (#[Value.int .u32 (z % 4294967296), Value.int .u32 (z / 4294967296)] : Array Value) = arr t ∧ t.length = 2 ∧ Lm.Small t ∧ Lm.val t = z.natAbs := by
  refine ⟨[z.natAbs % 4294967296, z.natAbs / 4294967296], ?_, rfl, ?_, ?_⟩
  · have e1 : z % 4294967296 = ((z.natAbs % 4294967296 : Nat) : Int) := by omega
    have e2 : z / 4294967296 = ((z.natAbs / 4294967296 : Nat) : Int) := by omega
    rw [e1, e2]
    rfl
  · intro x hx
    simp at hx
    omega
  · simp only [Lm.val]; omega

set_option maxHeartbeats 1000000 in
theorem of_neg (w : World) (z : Int) (h1 : -9223372036854775808 ≤ z) (h2 : z < 0) :
    Calls Try.prog 33 #[.int .i64 z] w (OnePost w z) := by
  obtain ⟨t, ht, htl, hts, htv⟩ := of_limbs_neg z h1 h2
  obtain ⟨k, hk0⟩ : ∃ k, k = (Lm.digits (Lm.val t)).length := ⟨_, rfl⟩
  have hT := Lib.hid ht
  have hL := Lib.hid htl
  have hV := Lib.hid htv
  have hK := Lib.hid hk0
  clear ht htl htv hk0
  go_enter Try.func33, Try.ntmps33
  go_wp2_with fail
  rw [hT.out]
  have hb0 := ((Below.refl w.heap.size w).alloc (Nat.le_refl _) (.cells #[.bool false, .slice none 0 0] 24)).alloc (by simp) (.cells (arr t) 50)
  have hxr := (Box.new w (.bool false) (.slice none 0 0)).alloc (.cells (arr t) 50)
  have hown : Own ((w.alloc (.cells #[.bool false, .slice none 0 0] 24)).alloc (.cells (arr t) 50)) w.heap.size (some ⟨w.heap.size + 1, 0, none⟩) 2 2 t := by
    have := Own.new (w.alloc (.cells #[.bool false, .slice none 0 0] 24)) w.heap.size t hts (by simp) (by rw [hL.out]; decide)
    rw [hL.out] at this
    simpa using this
  generalize (w.alloc (.cells #[.bool false, .slice none 0 0] 24)).alloc (.cells (arr t) 50) = W at *
  refine (trimmed_at W _ 2 2 t k hown.lim (by decide) hK).mono ?_
  rintro e w' ⟨rfl, rfl⟩
  have hown2 : Own W w.heap.size (some ⟨w.heap.size + 1, 0, none⟩) k 2 (Lm.digits z.natAbs) := by
    have e := Lm.digits_take hts
    rw [← hK.out, hV.out] at e
    rw [e]
    exact hown.take k (by have h := Lm.digits_small_len hts; rw [hL.out, ← hK.out] at h; exact h)
  go_wp2_with fail
  refine (signed_num W w.heap.size true _ k 2 z.natAbs hown2).mono ?_
  rintro e w1 ⟨_, rfl, ⟨s1, A1, n1, c1, rfl, hs1, ho1⟩, hb⟩
  have hzz : sgn true z.natAbs = z := by unfold sgn; simp; omega
  rw [hzz] at hs1 ho1
  have HZ := Lib.hid hzz
  clear hzz
  have r := hxr.below' hb
  have x0 := r.c0
  have x1 := r.c1
  have f0 := r.f0
  have f1 := r.f1
  go_wp2
  obtain ⟨hB, hNV, hbl⟩ := close_num (base' := w.heap.size) r (Nat.le_refl _) (hb0.trans (hb.mono hb0.size)) hs1 ho1 (Nat.le_refl _)
  generalize (w1.setCell ⟨w.heap.size, 0, none⟩ (.bool s1)).setCell ⟨w.heap.size, 1, none⟩ (.slice A1 n1 c1) = W2 at *
  have hy0 := hB.c0
  have hy1 := hB.c1
  exact bodyPost_ret (v := .agg #[.bool s1, .slice A1 n1 c1]) (by simp [results, Try.results33, go_sem, hy0, hy1]) rfl ⟨_, rfl, hNV, hbl⟩

set_option maxHeartbeats 1000000 in
theorem of_pos (w : World) (z : Int) (h1 : 0 ≤ z) (h2 : z ≤ 9223372036854775807) :
    Calls Try.prog 33 #[.int .i64 z] w (OnePost w z) := by
  obtain ⟨t, ht, htl, hts, htv⟩ := of_limbs_pos z h1 h2
  obtain ⟨k, hk0⟩ : ∃ k, k = (Lm.digits (Lm.val t)).length := ⟨_, rfl⟩
  have hT := Lib.hid ht
  have hL := Lib.hid htl
  have hV := Lib.hid htv
  have hK := Lib.hid hk0
  clear ht htl htv hk0
  have hz0 : decide (z < 0) = false := by rw [decide_eq_false_iff_not]; omega
  go_enter Try.func33, Try.ntmps33
  go_wp2_with fail
  rw [hT.out]
  have hb0 := ((Below.refl w.heap.size w).alloc (Nat.le_refl _) (.cells #[.bool false, .slice none 0 0] 24)).alloc (by simp) (.cells (arr t) 50)
  have hxr := (Box.new w (.bool false) (.slice none 0 0)).alloc (.cells (arr t) 50)
  have hown : Own ((w.alloc (.cells #[.bool false, .slice none 0 0] 24)).alloc (.cells (arr t) 50)) w.heap.size (some ⟨w.heap.size + 1, 0, none⟩) 2 2 t := by
    have := Own.new (w.alloc (.cells #[.bool false, .slice none 0 0] 24)) w.heap.size t hts (by simp) (by rw [hL.out]; decide)
    rw [hL.out] at this
    simpa using this
  generalize (w.alloc (.cells #[.bool false, .slice none 0 0] 24)).alloc (.cells (arr t) 50) = W at *
  refine (trimmed_at W _ 2 2 t k hown.lim (by decide) hK).mono ?_
  rintro e w' ⟨rfl, rfl⟩
  have hown2 : Own W w.heap.size (some ⟨w.heap.size + 1, 0, none⟩) k 2 (Lm.digits z.natAbs) := by
    have e := Lm.digits_take hts
    rw [← hK.out, hV.out] at e
    rw [e]
    exact hown.take k (by have h := Lm.digits_small_len hts; rw [hL.out, ← hK.out] at h; exact h)
  go_wp2_with fail
  refine (signed_num W w.heap.size false _ k 2 z.natAbs hown2).mono ?_
  rintro e w1 ⟨_, rfl, ⟨s1, A1, n1, c1, rfl, hs1, ho1⟩, hb⟩
  have hzz : sgn false z.natAbs = z := by unfold sgn; simp; omega
  rw [hzz] at hs1 ho1
  have HZ := Lib.hid hzz
  clear hzz
  have r := hxr.below' hb
  have x0 := r.c0
  have x1 := r.c1
  have f0 := r.f0
  have f1 := r.f1
  go_wp2
  obtain ⟨hB, hNV, hbl⟩ := close_num (base' := w.heap.size) r (Nat.le_refl _) (hb0.trans (hb.mono hb0.size)) hs1 ho1 (Nat.le_refl _)
  generalize (w1.setCell ⟨w.heap.size, 0, none⟩ (.bool s1)).setCell ⟨w.heap.size, 1, none⟩ (.slice A1 n1 c1) = W2 at *
  have hy0 := hB.c0
  have hy1 := hB.c1
  exact bodyPost_ret (v := .agg #[.bool s1, .slice A1 n1 c1]) (by simp [results, Try.results33, go_sem, hy0, hy1]) rfl ⟨_, rfl, hNV, hbl⟩

/-- num.Of. -/
theorem of_any (w : World) (z : Int) (h1 : -9223372036854775808 ≤ z) (h2 : z ≤ 9223372036854775807) : Calls Try.prog 33 #[.int .i64 z] w (OnePost w z) := by
  rcases Int.lt_or_le z 0 with h | h
  · exact of_neg w z h1 h
  · exact of_pos w z h h2

theorem or_u64 (v x : Nat) (hv : v ≤ 4294967295) (hx : x ≤ 4294967295) : bits .or .u64 (v : Int) ((x : Int) * 4294967296) = ((v + 4294967296 ^ 1 * x : Nat) : Int) := by
  have e : ((x : Int) * 4294967296) = ((x * 4294967296 : Nat) : Int) := by omega
  rw [e, bits_or_u64_nat _ _ (by omega) (by omega)]
  have h := Nat.shiftLeft_add_eq_or_of_lt (a := x) (b := v) (i := 32) (by omega)
  rw [Nat.shiftLeft_eq] at h
  rw [Nat.or_comm, ← h]
  congr 1
  omega
theorem or_u64_0 (x : Nat) (hx : x ≤ 4294967295) : bits .or .u64 0 (x : Int) = (x : Int) := by
  have h := bits_or_u64_nat 0 x (by omega) (by omega)
  simpa using h

/-- Is z from Least to Greatest? -/
def smallB (z : Int) : Bool := decide (-1152921504606846976 ≤ z) && decide (z ≤ 1152921504606846975)
/-- What num.Small leaves. -/
def SmallPost (w : World) (z : Int) (ok : Bool) (e : Ending) (w' : World) : Prop := e = .returned (.tuple #[.int .i64 z, .bool ok]) ∧ Below w.heap.size w w'

set_option maxHeartbeats 1000000 in
theorem small_no1 (w : World) (g : Bool) (A : Option Addr) (n c : Nat) (l : List Nat) (h : Raw w A n c l) (hm : mayB g l = false) :
    Calls Try.prog 42 #[.agg #[.bool g, .slice A n c]] w (SmallPost w 0 false) := by
  go_enter Try.func42, Try.ntmps42
  go_wp2_with fail
  have hb0 := ((Below.refl w.heap.size w).alloc (Nat.le_refl _) (.cells #[.bool g, .slice A n c] 24))
  have hxa := Box.new w (.bool g) (.slice A n c)
  have hAA := h.below hb0
  generalize w.alloc (.cells #[.bool g, .slice A n c] 24) = W at *
  refine (may_b W g A n c l hAA).mono ?_
  rintro e w1 ⟨rfl, hb1⟩
  have ya := hxa.below' hb1
  replace hAA := hAA.below hb1
  replace hb0 := hb0.trans (hb1.mono hb0.size)
  clear hxa hb1
  have x1 := ya.c0
  have x2 := ya.c1
  go_wp2
  go_ret2
  exact ⟨rfl, hb0⟩

set_option maxHeartbeats 1000000 in
theorem small_no2 (w : World) (g : Bool) (A : Option Addr) (n c : Nat) (l : List Nat) (h : Raw w A n c l) (hm : mayB g l = true) (h2 : 2 < n) :
    Calls Try.prog 42 #[.agg #[.bool g, .slice A n c]] w (SmallPost w 0 false) := by
  go_enter Try.func42, Try.ntmps42
  go_wp2_with fail
  have hb0 := ((Below.refl w.heap.size w).alloc (Nat.le_refl _) (.cells #[.bool g, .slice A n c] 24))
  have hxa := Box.new w (.bool g) (.slice A n c)
  have hAA := h.below hb0
  generalize w.alloc (.cells #[.bool g, .slice A n c] 24) = W at *
  refine (may_b W g A n c l hAA).mono ?_
  rintro e w1 ⟨rfl, hb1⟩
  have ya := hxa.below' hb1
  replace hAA := hAA.below hb1
  replace hb0 := hb0.trans (hb1.mono hb0.size)
  clear hxa hb1
  have x1 := ya.c0
  have x2 := ya.c1
  have h2' : decide ((2 : Int) < (n : Int)) = true := by rw [decide_eq_true_iff]; omega
  go_wp2
  go_ret2
  exact ⟨rfl, hb0⟩

set_option maxHeartbeats 2000000 in
theorem small_neg_in (w : World) (A : Option Addr) (n c : Nat) (l : List Nat) (h : Raw w A n c l) (hm : mayB true l = true) (h2 : n ≤ 2) (hv60 : Lm.val l ≤ 1152921504606846976) :
    Calls Try.prog 42 #[.agg #[.bool true, .slice A n c]] w (SmallPost w (-(Lm.val l : Int)) true) := by
  have h2' : decide ((2 : Int) < (n : Int)) = false := by rw [decide_eq_false_iff_not]; omega
  have h60 := Lib.hid hv60
  clear hv60
  go_enter Try.func42, Try.ntmps42
  go_wp2_with fail
  have hb0 := ((Below.refl w.heap.size w).alloc (Nat.le_refl _) (.cells #[.bool true, .slice A n c] 24))
  have hxa := Box.new w (.bool true) (.slice A n c)
  have hAA := h.below hb0
  generalize w.alloc (.cells #[.bool true, .slice A n c] 24) = W at *
  refine (may_b W true A n c l hAA).mono ?_
  rintro e w1 ⟨rfl, hb1⟩
  have ya := hxa.below' hb1
  replace hAA := hAA.below hb1
  replace hb0 := hb0.trans (hb1.mono hb0.size)
  clear hxa hb1
  have x1 := ya.c0
  have x2 := ya.c1
  go_wp2
  go_loop [4, 19] (fun u i => ∃ (j v : Nat), j ≤ n ∧ i = .int .i64 (j : Int) ∧ u = .int .u64 (v : Int) ∧ Hid (v = Lm.val (l.take j))) (fun _ i => n - (intOf i).toNat)
  case atStart => exact ⟨0, 0, Nat.zero_le _, rfl, rfl, Lib.hid rfl⟩
  case round =>
    obtain ⟨j, v, hj, rfl, rfl, hv⟩ := hrel
    by_cases h0 : j < n
    · obtain ⟨b, o, rfl, hb, hcell⟩ := hAA.1.2.2.2 (by omega)
      have hg := hcell j h0
      obtain ⟨x, hx⟩ : ∃ x, x = Lm.lg l j := ⟨_, rfl⟩
      have hl0 : x ≤ 4294967295 := by rw [hx]; have := Lm.lg_lt hAA.1.2.2.1 j; omega
      rw [← hx] at hg
      have hX := Lib.hid hx
      have hstep := Lib.hid (show Lm.val (l.take (j + 1)) = v + 4294967296 ^ j * x by rw [Lm.val_take_succ, hv.out, hx])
      clear hcell hx
      have hj2 : j = 0 ∨ j = 1 := by omega
      rcases hj2 with rfl | rfl
      · have hv0 : v = 0 := hv.out
        subst hv0
        rw [Nat.add_zero] at hg
        go_wp2
        go_round
        case rel => exact ⟨1, x, by omega, by go_num, by rw [or_u64_0 x hl0], Lib.hid (by rw [hstep.out]; simp)⟩
        case measure => simp [intOf]; omega
      · have hvl : v ≤ 4294967295 := by
          rw [hv.out]
          have := Lm.val_lt (Lm.small_take hAA.1.2.2.1 1)
          rw [List.length_take, Nat.min_eq_left (by rw [hAA.1.1]; omega)] at this
          omega
        go_wp2
        rw [or_u64 v x hvl hl0]
        exact ⟨⟨2, _, by omega, by go_num, rfl, Lib.hid hstep.out.symm⟩, by simp [intOf]; omega⟩
    · have hjn : j = n := by omega
      subst hjn
      have hvl := Lib.hid (show v = Lm.val l by rw [hv.out, List.take_of_length_le (by rw [hAA.1.1]; exact Nat.le_refl _)])
      have h60' := h60.out
      have ht : decide ((v : Int) ≤ 1152921504606846976) = true := by rw [decide_eq_true_iff]; rw [hvl.out]; omega
      have hvb : v ≤ 1152921504606846976 := by rw [hvl.out]; omega
      clear h60'
      go_wp2
      go_ret2
      exact ⟨by rw [hvl.out]; rfl, hb0⟩

set_option maxHeartbeats 2000000 in
theorem small_neg_out (w : World) (A : Option Addr) (n c : Nat) (l : List Nat) (h : Raw w A n c l) (hm : mayB true l = true) (h2 : n ≤ 2) (hv60 : 1152921504606846976 < Lm.val l) :
    Calls Try.prog 42 #[.agg #[.bool true, .slice A n c]] w (SmallPost w (0) false) := by
  have h2' : decide ((2 : Int) < (n : Int)) = false := by rw [decide_eq_false_iff_not]; omega
  have h60 := Lib.hid hv60
  clear hv60
  go_enter Try.func42, Try.ntmps42
  go_wp2_with fail
  have hb0 := ((Below.refl w.heap.size w).alloc (Nat.le_refl _) (.cells #[.bool true, .slice A n c] 24))
  have hxa := Box.new w (.bool true) (.slice A n c)
  have hAA := h.below hb0
  generalize w.alloc (.cells #[.bool true, .slice A n c] 24) = W at *
  refine (may_b W true A n c l hAA).mono ?_
  rintro e w1 ⟨rfl, hb1⟩
  have ya := hxa.below' hb1
  replace hAA := hAA.below hb1
  replace hb0 := hb0.trans (hb1.mono hb0.size)
  clear hxa hb1
  have x1 := ya.c0
  have x2 := ya.c1
  go_wp2
  go_loop [4, 19] (fun u i => ∃ (j v : Nat), j ≤ n ∧ i = .int .i64 (j : Int) ∧ u = .int .u64 (v : Int) ∧ Hid (v = Lm.val (l.take j))) (fun _ i => n - (intOf i).toNat)
  case atStart => exact ⟨0, 0, Nat.zero_le _, rfl, rfl, Lib.hid rfl⟩
  case round =>
    obtain ⟨j, v, hj, rfl, rfl, hv⟩ := hrel
    by_cases h0 : j < n
    · obtain ⟨b, o, rfl, hb, hcell⟩ := hAA.1.2.2.2 (by omega)
      have hg := hcell j h0
      obtain ⟨x, hx⟩ : ∃ x, x = Lm.lg l j := ⟨_, rfl⟩
      have hl0 : x ≤ 4294967295 := by rw [hx]; have := Lm.lg_lt hAA.1.2.2.1 j; omega
      rw [← hx] at hg
      have hX := Lib.hid hx
      have hstep := Lib.hid (show Lm.val (l.take (j + 1)) = v + 4294967296 ^ j * x by rw [Lm.val_take_succ, hv.out, hx])
      clear hcell hx
      have hj2 : j = 0 ∨ j = 1 := by omega
      rcases hj2 with rfl | rfl
      · have hv0 : v = 0 := hv.out
        subst hv0
        rw [Nat.add_zero] at hg
        go_wp2
        go_round
        case rel => exact ⟨1, x, by omega, by go_num, by rw [or_u64_0 x hl0], Lib.hid (by rw [hstep.out]; simp)⟩
        case measure => simp [intOf]; omega
      · have hvl : v ≤ 4294967295 := by
          rw [hv.out]
          have := Lm.val_lt (Lm.small_take hAA.1.2.2.1 1)
          rw [List.length_take, Nat.min_eq_left (by rw [hAA.1.1]; omega)] at this
          omega
        go_wp2
        rw [or_u64 v x hvl hl0]
        exact ⟨⟨2, _, by omega, by go_num, rfl, Lib.hid hstep.out.symm⟩, by simp [intOf]; omega⟩
    · have hjn : j = n := by omega
      subst hjn
      have hvl := Lib.hid (show v = Lm.val l by rw [hv.out, List.take_of_length_le (by rw [hAA.1.1]; exact Nat.le_refl _)])
      have h60' := h60.out
      have ht : decide ((v : Int) ≤ 1152921504606846976) = false := by rw [decide_eq_false_iff_not]; rw [hvl.out]; omega
      skip
      clear h60'
      go_wp2
      go_ret2
      exact ⟨rfl, hb0⟩

set_option maxHeartbeats 2000000 in
theorem small_pos_in (w : World) (A : Option Addr) (n c : Nat) (l : List Nat) (h : Raw w A n c l) (hm : mayB false l = true) (h2 : n ≤ 2) (hv60 : Lm.val l ≤ 1152921504606846975) :
    Calls Try.prog 42 #[.agg #[.bool false, .slice A n c]] w (SmallPost w ((Lm.val l : Int)) true) := by
  have h2' : decide ((2 : Int) < (n : Int)) = false := by rw [decide_eq_false_iff_not]; omega
  have h60 := Lib.hid hv60
  clear hv60
  go_enter Try.func42, Try.ntmps42
  go_wp2_with fail
  have hb0 := ((Below.refl w.heap.size w).alloc (Nat.le_refl _) (.cells #[.bool false, .slice A n c] 24))
  have hxa := Box.new w (.bool false) (.slice A n c)
  have hAA := h.below hb0
  generalize w.alloc (.cells #[.bool false, .slice A n c] 24) = W at *
  refine (may_b W false A n c l hAA).mono ?_
  rintro e w1 ⟨rfl, hb1⟩
  have ya := hxa.below' hb1
  replace hAA := hAA.below hb1
  replace hb0 := hb0.trans (hb1.mono hb0.size)
  clear hxa hb1
  have x1 := ya.c0
  have x2 := ya.c1
  go_wp2
  go_loop [4, 19] (fun u i => ∃ (j v : Nat), j ≤ n ∧ i = .int .i64 (j : Int) ∧ u = .int .u64 (v : Int) ∧ Hid (v = Lm.val (l.take j))) (fun _ i => n - (intOf i).toNat)
  case atStart => exact ⟨0, 0, Nat.zero_le _, rfl, rfl, Lib.hid rfl⟩
  case round =>
    obtain ⟨j, v, hj, rfl, rfl, hv⟩ := hrel
    by_cases h0 : j < n
    · obtain ⟨b, o, rfl, hb, hcell⟩ := hAA.1.2.2.2 (by omega)
      have hg := hcell j h0
      obtain ⟨x, hx⟩ : ∃ x, x = Lm.lg l j := ⟨_, rfl⟩
      have hl0 : x ≤ 4294967295 := by rw [hx]; have := Lm.lg_lt hAA.1.2.2.1 j; omega
      rw [← hx] at hg
      have hX := Lib.hid hx
      have hstep := Lib.hid (show Lm.val (l.take (j + 1)) = v + 4294967296 ^ j * x by rw [Lm.val_take_succ, hv.out, hx])
      clear hcell hx
      have hj2 : j = 0 ∨ j = 1 := by omega
      rcases hj2 with rfl | rfl
      · have hv0 : v = 0 := hv.out
        subst hv0
        rw [Nat.add_zero] at hg
        go_wp2
        go_round
        case rel => exact ⟨1, x, by omega, by go_num, by rw [or_u64_0 x hl0], Lib.hid (by rw [hstep.out]; simp)⟩
        case measure => simp [intOf]; omega
      · have hvl : v ≤ 4294967295 := by
          rw [hv.out]
          have := Lm.val_lt (Lm.small_take hAA.1.2.2.1 1)
          rw [List.length_take, Nat.min_eq_left (by rw [hAA.1.1]; omega)] at this
          omega
        go_wp2
        rw [or_u64 v x hvl hl0]
        exact ⟨⟨2, _, by omega, by go_num, rfl, Lib.hid hstep.out.symm⟩, by simp [intOf]; omega⟩
    · have hjn : j = n := by omega
      subst hjn
      have hvl := Lib.hid (show v = Lm.val l by rw [hv.out, List.take_of_length_le (by rw [hAA.1.1]; exact Nat.le_refl _)])
      have h60' := h60.out
      have ht : decide ((v : Int) ≤ 1152921504606846975) = true := by rw [decide_eq_true_iff]; rw [hvl.out]; omega
      have hvb : v ≤ 1152921504606846976 := by rw [hvl.out]; omega
      clear h60'
      go_wp2
      go_ret2
      exact ⟨by rw [hvl.out]; rfl, hb0⟩

set_option maxHeartbeats 2000000 in
theorem small_pos_out (w : World) (A : Option Addr) (n c : Nat) (l : List Nat) (h : Raw w A n c l) (hm : mayB false l = true) (h2 : n ≤ 2) (hv60 : 1152921504606846975 < Lm.val l) :
    Calls Try.prog 42 #[.agg #[.bool false, .slice A n c]] w (SmallPost w (0) false) := by
  have h2' : decide ((2 : Int) < (n : Int)) = false := by rw [decide_eq_false_iff_not]; omega
  have h60 := Lib.hid hv60
  clear hv60
  go_enter Try.func42, Try.ntmps42
  go_wp2_with fail
  have hb0 := ((Below.refl w.heap.size w).alloc (Nat.le_refl _) (.cells #[.bool false, .slice A n c] 24))
  have hxa := Box.new w (.bool false) (.slice A n c)
  have hAA := h.below hb0
  generalize w.alloc (.cells #[.bool false, .slice A n c] 24) = W at *
  refine (may_b W false A n c l hAA).mono ?_
  rintro e w1 ⟨rfl, hb1⟩
  have ya := hxa.below' hb1
  replace hAA := hAA.below hb1
  replace hb0 := hb0.trans (hb1.mono hb0.size)
  clear hxa hb1
  have x1 := ya.c0
  have x2 := ya.c1
  go_wp2
  go_loop [4, 19] (fun u i => ∃ (j v : Nat), j ≤ n ∧ i = .int .i64 (j : Int) ∧ u = .int .u64 (v : Int) ∧ Hid (v = Lm.val (l.take j))) (fun _ i => n - (intOf i).toNat)
  case atStart => exact ⟨0, 0, Nat.zero_le _, rfl, rfl, Lib.hid rfl⟩
  case round =>
    obtain ⟨j, v, hj, rfl, rfl, hv⟩ := hrel
    by_cases h0 : j < n
    · obtain ⟨b, o, rfl, hb, hcell⟩ := hAA.1.2.2.2 (by omega)
      have hg := hcell j h0
      obtain ⟨x, hx⟩ : ∃ x, x = Lm.lg l j := ⟨_, rfl⟩
      have hl0 : x ≤ 4294967295 := by rw [hx]; have := Lm.lg_lt hAA.1.2.2.1 j; omega
      rw [← hx] at hg
      have hX := Lib.hid hx
      have hstep := Lib.hid (show Lm.val (l.take (j + 1)) = v + 4294967296 ^ j * x by rw [Lm.val_take_succ, hv.out, hx])
      clear hcell hx
      have hj2 : j = 0 ∨ j = 1 := by omega
      rcases hj2 with rfl | rfl
      · have hv0 : v = 0 := hv.out
        subst hv0
        rw [Nat.add_zero] at hg
        go_wp2
        go_round
        case rel => exact ⟨1, x, by omega, by go_num, by rw [or_u64_0 x hl0], Lib.hid (by rw [hstep.out]; simp)⟩
        case measure => simp [intOf]; omega
      · have hvl : v ≤ 4294967295 := by
          rw [hv.out]
          have := Lm.val_lt (Lm.small_take hAA.1.2.2.1 1)
          rw [List.length_take, Nat.min_eq_left (by rw [hAA.1.1]; omega)] at this
          omega
        go_wp2
        rw [or_u64 v x hvl hl0]
        exact ⟨⟨2, _, by omega, by go_num, rfl, Lib.hid hstep.out.symm⟩, by simp [intOf]; omega⟩
    · have hjn : j = n := by omega
      subst hjn
      have hvl := Lib.hid (show v = Lm.val l by rw [hv.out, List.take_of_length_le (by rw [hAA.1.1]; exact Nat.le_refl _)])
      have h60' := h60.out
      have ht : decide ((v : Int) ≤ 1152921504606846975) = false := by rw [decide_eq_false_iff_not]; rw [hvl.out]; omega
      skip
      clear h60'
      go_wp2
      go_ret2
      exact ⟨rfl, hb0⟩

/-- num.Small, of a number that may be. -/
theorem small_yes (w : World) (g : Bool) (A : Option Addr) (n c : Nat) (l : List Nat) (h : Raw w A n c l) (hm : mayB g l = true) :
    Calls Try.prog 42 #[.agg #[.bool g, .slice A n c]] w (SmallPost w (if smallB (sgn g (Lm.val l)) then sgn g (Lm.val l) else 0) (smallB (sgn g (Lm.val l)))) := by
  have hcan := mayB_canon hm
  have hsm := h.1.2.2.1
  by_cases h2 : n ≤ 2
  · cases g with
    | true =>
      by_cases hv : Lm.val l ≤ 1152921504606846976
      · have e : smallB (sgn true (Lm.val l)) = true := by simp [smallB, sgn]; omega
        rw [e, if_pos rfl]
        exact small_neg_in w A n c l h hm h2 hv
      · have e : smallB (sgn true (Lm.val l)) = false := by simp [smallB, sgn]; omega
        rw [e]
        exact small_neg_out w A n c l h hm h2 (by omega)
    | false =>
      by_cases hv : Lm.val l ≤ 1152921504606846975
      · have e : smallB (sgn false (Lm.val l)) = true := by simp [smallB, sgn]; omega
        rw [e, if_pos rfl]
        exact small_pos_in w A n c l h hm h2 hv
      · have e : smallB (sgn false (Lm.val l)) = false := by simp [smallB, sgn]; omega
        rw [e]
        exact small_pos_out w A n c l h hm h2 (by omega)
  · have hbig : ¬ Lm.val l < 4294967296 ^ 2 := fun hlt => by
      have := (Lm.digits_length (Lm.val l) 2).2 hlt
      rw [Lm.digits_val hsm hcan, h.1.1] at this
      exact h2 this
    have e : smallB (sgn g (Lm.val l)) = false := by
      cases g <;> simp [smallB, sgn] <;> omega
    rw [e]
    exact small_no2 w g A n c l h hm (by omega)

end Go.Proofs.Ytbpihjcghmmacaa
