import Derived.Test.YtlmojomnebjhaaaLeafC
namespace Go.Proofs.Ytlmojomnebjhaaa
open Go.RowKit

/-- What addLimbs leaves: a new row. -/
def SumPost (w : World) (N v : Nat) (e : Ending) (w' : World) : Prop :=
  ∃ t : List Nat, e = .returned (.slice (some ⟨w.heap.size, 0, none⟩) N N) ∧ w' = w.alloc (.cells (arr t) 40) ∧ t.length = N ∧ Lm.Small t ∧ Lm.val t = v

theorem cast3d (x a b : Nat) : ((x : Int) + a + b) / 4294967296 = (((x + a + b) / 4294967296 : Nat) : Int) := by omega
theorem cast3m (x a b : Nat) : ((x : Int) + a + b) % 4294967296 = (((x + a + b) % 4294967296 : Nat) : Int) := by omega
theorem cast2d (x a : Nat) : ((x : Int) + a) / 4294967296 = (((x + a + 0) / 4294967296 : Nat) : Int) := by omega
theorem cast2m (x a : Nat) : ((x : Int) + a) % 4294967296 = (((x + a + 0) % 4294967296 : Nat) : Int) := by omega

set_option maxHeartbeats 1000000 in
theorem addLimbs_ge (w : World) (A B : Option Addr) (n c m d : Nat) (l k : List Nat) (h : Lim w A n c l) (hn : n ≤ 1000) (h' : Lim w B m d k) (hmn : m ≤ n) :
    Calls Try.prog 45 #[.slice A n c, .slice B m d] w (SumPost w (n + 1) (Lm.val l + Lm.val k)) := by
  have hmk := fun w => make_limbs (n + 1) (by omega) w
  simp only [Int.natCast_add, Int.natCast_one] at hmk
  have hll := Lib.hid h.1
  have hkk := Lib.hid h'.1
  have hsl := h.2.2.1
  have hsk := h'.2.2.1
  have hlt0 : decide (n < m) = false := by rw [decide_eq_false_iff_not]; omega
  go_enter Try.func45, Try.ntmps45
  go_wp2
  go_loopw [6, 22] (fun u i w' => ∃ (j x : Nat) (t : List Nat), j ≤ n ∧ i = .int .i64 (j : Int) ∧ x ≤ 1 ∧ u = .int .u64 (x : Int) ∧ w' = w.alloc (.cells (arr t) 40) ∧ Hid (t.length = n + 1) ∧ Lm.Small t ∧ Hid (Lm.val (t.take j) + 4294967296 ^ j * x = Lm.val (l.take j) + Lm.val (k.take j))) (fun _ i _ => n - (intOf i).toNat)
  case atStart => exact ⟨0, 0, List.replicate (n + 1) 0, Nat.zero_le _, rfl, by omega, rfl, rfl, Lib.hid (by simp), Lm.small_replicate _, Lib.hid (by simp [Lm.val])⟩
  case round =>
    obtain ⟨j, x, t, hj, rfl, hx, rfl, rfl, htl, hts, hinv⟩ := hrel
    by_cases h0 : j < n
    · obtain ⟨b, o, rfl, hb, hcell⟩ := h.2.2.2 (by omega)
      have hg : w.cell? ⟨b, o + j, none⟩ = some (.int .u32 (Lm.lg l j : Nat)) := hcell j h0
      have hl0 : Lm.lg l j ≤ 4294967295 := by have := Lm.lg_lt hsl j; omega
      clear hcell
      have hget := arr_get (t := t) (i := j) (by rw [htl.out]; omega)
      by_cases hm : j < m
      · obtain ⟨b', o', rfl, hb', hcell'⟩ := h'.2.2.2 (by omega)
        have hg' : w.cell? ⟨b', o' + j, none⟩ = some (.int .u32 (Lm.lg k j : Nat)) := hcell' j hm
        have hk0 : Lm.lg k j ≤ 4294967295 := by have := Lm.lg_lt hsk j; omega
        clear hcell'
        go_wp2
        rw [cast3d, cast3m, arr_set]
        exact ⟨⟨j + 1, _, _, by omega, by go_num, by omega, rfl, rfl, Lib.hid (by rw [List.length_set]; exact htl.out), Lm.small_set hts _ (by omega), Lib.hid (Lm.add_step (by rw [htl.out]; omega) hinv.out)⟩, by simp [intOf]; omega⟩
      · have hk0 : Lm.lg k j = 0 := Lm.lg_out (by rw [hkk.out]; omega)
        have hstep := Lib.hid (Lm.add_step (t := t) (by rw [htl.out]; omega) hinv.out)
        rw [hk0] at hstep
        have hK0 := Lib.hid hk0
        clear hk0
        go_wp2
        rw [cast2d, cast2m, arr_set]
        exact ⟨⟨j + 1, _, _, by omega, by go_num, by omega, rfl, rfl, Lib.hid (by rw [List.length_set]; exact htl.out), Lm.small_set hts _ (by omega), hstep⟩, by simp [intOf]; omega⟩
    · have hjn : j = n := by omega
      subst hjn
      have hget := arr_get (t := t) (i := j) (by rw [htl.out]; omega)
      have fin := Lib.hid (Lm.add_end (t := t) (l := l) (k := k) (c := x) (by rw [htl.out, hll.out]) (by rw [hll.out, hkk.out]; exact hmn) (by rw [hll.out]; exact hinv.out))
      go_wp2
      rw [arr_set]
      go_ret
      exact ⟨t.set j x, rfl, rfl, by rw [List.length_set]; exact htl.out, Lm.small_set hts _ (by omega), by rw [← fin.out, hll.out]⟩

set_option maxHeartbeats 1000000 in
theorem addLimbs_lt (w : World) (A B : Option Addr) (n c m d : Nat) (l k : List Nat) (h : Lim w A n c l) (hn : n ≤ 1000) (h' : Lim w B m d k) (hmn : m < n) :
    Calls Try.prog 45 #[.slice B m d, .slice A n c] w (SumPost w (n + 1) (Lm.val l + Lm.val k)) := by
  have hmk := fun w => make_limbs (n + 1) (by omega) w
  simp only [Int.natCast_add, Int.natCast_one] at hmk
  have hll := Lib.hid h.1
  have hkk := Lib.hid h'.1
  have hsl := h.2.2.1
  have hsk := h'.2.2.1
  have hlt0 : decide (m < n) = true := by rw [decide_eq_true_iff]; omega
  go_enter Try.func45, Try.ntmps45
  go_wp2
  go_loopw [6, 22] (fun u i w' => ∃ (j x : Nat) (t : List Nat), j ≤ n ∧ i = .int .i64 (j : Int) ∧ x ≤ 1 ∧ u = .int .u64 (x : Int) ∧ w' = w.alloc (.cells (arr t) 40) ∧ Hid (t.length = n + 1) ∧ Lm.Small t ∧ Hid (Lm.val (t.take j) + 4294967296 ^ j * x = Lm.val (l.take j) + Lm.val (k.take j))) (fun _ i _ => n - (intOf i).toNat)
  case atStart => exact ⟨0, 0, List.replicate (n + 1) 0, Nat.zero_le _, rfl, by omega, rfl, rfl, Lib.hid (by simp), Lm.small_replicate _, Lib.hid (by simp [Lm.val])⟩
  case round =>
    obtain ⟨j, x, t, hj, rfl, hx, rfl, rfl, htl, hts, hinv⟩ := hrel
    by_cases h0 : j < n
    · obtain ⟨b, o, rfl, hb, hcell⟩ := h.2.2.2 (by omega)
      have hg : w.cell? ⟨b, o + j, none⟩ = some (.int .u32 (Lm.lg l j : Nat)) := hcell j h0
      have hl0 : Lm.lg l j ≤ 4294967295 := by have := Lm.lg_lt hsl j; omega
      clear hcell
      have hget := arr_get (t := t) (i := j) (by rw [htl.out]; omega)
      by_cases hm : j < m
      · obtain ⟨b', o', rfl, hb', hcell'⟩ := h'.2.2.2 (by omega)
        have hg' : w.cell? ⟨b', o' + j, none⟩ = some (.int .u32 (Lm.lg k j : Nat)) := hcell' j hm
        have hk0 : Lm.lg k j ≤ 4294967295 := by have := Lm.lg_lt hsk j; omega
        clear hcell'
        go_wp2
        rw [cast3d, cast3m, arr_set]
        exact ⟨⟨j + 1, _, _, by omega, by go_num, by omega, rfl, rfl, Lib.hid (by rw [List.length_set]; exact htl.out), Lm.small_set hts _ (by omega), Lib.hid (Lm.add_step (by rw [htl.out]; omega) hinv.out)⟩, by simp [intOf]; omega⟩
      · have hk0 : Lm.lg k j = 0 := Lm.lg_out (by rw [hkk.out]; omega)
        have hstep := Lib.hid (Lm.add_step (t := t) (by rw [htl.out]; omega) hinv.out)
        rw [hk0] at hstep
        have hK0 := Lib.hid hk0
        clear hk0
        go_wp2
        rw [cast2d, cast2m, arr_set]
        exact ⟨⟨j + 1, _, _, by omega, by go_num, by omega, rfl, rfl, Lib.hid (by rw [List.length_set]; exact htl.out), Lm.small_set hts _ (by omega), hstep⟩, by simp [intOf]; omega⟩
    · have hjn : j = n := by omega
      subst hjn
      have hget := arr_get (t := t) (i := j) (by rw [htl.out]; omega)
      have fin := Lib.hid (Lm.add_end (t := t) (l := l) (k := k) (c := x) (by rw [htl.out, hll.out]) (by rw [hll.out, hkk.out]; omega) (by rw [hll.out]; exact hinv.out))
      go_wp2
      rw [arr_set]
      go_ret
      exact ⟨t.set j x, rfl, rfl, by rw [List.length_set]; exact htl.out, Lm.small_set hts _ (by omega), by rw [← fin.out, hll.out]⟩


/-- num.addLimbs. -/
theorem addLimbs_any (w : World) (A B : Option Addr) (n c m d : Nat) (l k : List Nat) (h : Lim w A n c l) (hn : n ≤ 1000) (h' : Lim w B m d k) (hm : m ≤ 1000) :
    Calls Try.prog 45 #[.slice A n c, .slice B m d] w (SumPost w (max n m + 1) (Lm.val l + Lm.val k)) := by
  rcases Nat.lt_or_ge n m with hlt | hge
  · rw [Nat.max_eq_right (by omega), Nat.add_comm (Lm.val l)]
    exact addLimbs_lt w B A m d n c k l h' hm h hlt
  · rw [Nat.max_eq_left hge]
    exact addLimbs_ge w A B n c m d l k h hn h' hge

theorem sub_wrap (a x b : Nat) (ha : a ≤ 4294967295) (hx : x ≤ 1) (hb : b ≤ 4294967295) :
    ∃ y b' : Nat, IntKind.u64.wrap (IntKind.u64.wrap ((a : Int) - x) - b) % 4294967296 = (y : Int) ∧ IntKind.u64.wrap (IntKind.u64.wrap ((a : Int) - x) - b) / 9223372036854775808 = (b' : Int) ∧ b' ≤ 1 ∧ y < 4294967296 ∧ a + 4294967296 * b' = y + b + x := by
  rw [IntKind.wrap_u64, IntKind.wrap_u64]
  refine ⟨((((a : Int) - x) % 18446744073709551616 - b) % 18446744073709551616 % 4294967296).toNat, ((((a : Int) - x) % 18446744073709551616 - b) % 18446744073709551616 / 9223372036854775808).toNat, ?_, ?_, ?_, ?_, ?_⟩ <;> omega
theorem sub_wrap0 (a x : Nat) (ha : a ≤ 4294967295) (hx : x ≤ 1) :
    ∃ y b' : Nat, IntKind.u64.wrap ((a : Int) - x) % 4294967296 = (y : Int) ∧ IntKind.u64.wrap ((a : Int) - x) / 9223372036854775808 = (b' : Int) ∧ b' ≤ 1 ∧ y < 4294967296 ∧ a + 4294967296 * b' = y + 0 + x := by
  rw [IntKind.wrap_u64]
  refine ⟨(((a : Int) - x) % 18446744073709551616 % 4294967296).toNat, (((a : Int) - x) % 18446744073709551616 / 9223372036854775808).toNat, ?_, ?_, ?_, ?_, ?_⟩ <;> omega

set_option maxHeartbeats 1000000 in
theorem subLimbs_any (w : World) (A B : Option Addr) (n c m d : Nat) (l k : List Nat) (h : Lim w A n c l) (hn : n ≤ 1000) (h' : Lim w B m d k) (hmn : m ≤ n) (hle : Lm.val k ≤ Lm.val l) :
    Calls Try.prog 46 #[.slice A n c, .slice B m d] w (SumPost w n (Lm.val l - Lm.val k)) := by
  have hmk := fun w => make_limbs n (by omega) w
  have hll := Lib.hid h.1
  have hkk := Lib.hid h'.1
  have hsl := h.2.2.1
  have hsk := h'.2.2.1
  go_enter Try.func46, Try.ntmps46
  go_wp2
  go_loopw [6, 15] (fun u i w' => ∃ (j x : Nat) (t : List Nat), j ≤ n ∧ i = .int .i64 (j : Int) ∧ x ≤ 1 ∧ u = .int .u64 (x : Int) ∧ w' = w.alloc (.cells (arr t) 40) ∧ Hid (t.length = n) ∧ Lm.Small t ∧ Hid (Lm.val (l.take j) + 4294967296 ^ j * x = Lm.val (t.take j) + Lm.val (k.take j))) (fun _ i _ => n - (intOf i).toNat)
  case atStart => exact ⟨0, 0, List.replicate n 0, Nat.zero_le _, rfl, by omega, rfl, rfl, Lib.hid (by simp), Lm.small_replicate _, Lib.hid (by simp [Lm.val])⟩
  case round =>
    obtain ⟨j, x, t, hj, rfl, hx, rfl, rfl, htl, hts, hinv⟩ := hrel
    by_cases h0 : j < n
    · obtain ⟨b, o, rfl, hb, hcell⟩ := h.2.2.2 (by omega)
      have hg : w.cell? ⟨b, o + j, none⟩ = some (.int .u32 (Lm.lg l j : Nat)) := hcell j h0
      have hl0 : Lm.lg l j ≤ 4294967295 := by have := Lm.lg_lt hsl j; omega
      clear hcell
      have hget := arr_get (t := t) (i := j) (by rw [htl.out]; omega)
      by_cases hm : j < m
      · obtain ⟨b', o', rfl, hb', hcell'⟩ := h'.2.2.2 (by omega)
        have hg' : w.cell? ⟨b', o' + j, none⟩ = some (.int .u32 (Lm.lg k j : Nat)) := hcell' j hm
        have hk0 : Lm.lg k j ≤ 4294967295 := by have := Lm.lg_lt hsk j; omega
        clear hcell'
        go_wp2
        obtain ⟨y, b1, e1, e2, g1, g2, g3⟩ := sub_wrap (Lm.lg l j) x (Lm.lg k j) hl0 hx hk0
        rw [e1, e2, arr_set]
        exact ⟨⟨j + 1, b1, _, by omega, by go_num, g1, rfl, rfl, Lib.hid (by rw [List.length_set]; exact htl.out), Lm.small_set hts _ g2, Lib.hid (Lm.sub_step (by rw [htl.out]; omega) hinv.out g3)⟩, by simp [intOf]; omega⟩
      · have hk0 : Lm.lg k j = 0 := Lm.lg_out (by rw [hkk.out]; omega)
        have hK0 := Lib.hid hk0
        clear hk0
        go_wp2
        obtain ⟨y, b1, e1, e2, g1, g2, g3⟩ := sub_wrap0 (Lm.lg l j) x hl0 hx
        rw [e1, e2, arr_set]
        exact ⟨⟨j + 1, b1, _, by omega, by go_num, g1, rfl, rfl, Lib.hid (by rw [List.length_set]; exact htl.out), Lm.small_set hts _ g2, Lib.hid (Lm.sub_step (by rw [htl.out]; omega) hinv.out (by rw [hK0.out]; exact g3))⟩, by simp [intOf]; omega⟩
    · have hjn : j = n := by omega
      subst hjn
      have fin := Lib.hid (Lm.sub_end (t := t) (l := l) (k := k) (b := x) hts (by rw [htl.out, hll.out]) (by rw [hll.out, hkk.out]; exact hmn) hle (by rw [hll.out]; exact hinv.out))
      go_wp2
      go_ret
      exact ⟨t, rfl, rfl, htl.out, hts, fin.out⟩

end Go.Proofs.Ytlmojomnebjhaaa
