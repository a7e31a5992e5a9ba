import Derived.Test.YtlmojomnebjhaaaAdd
namespace Go.Proofs.Ytlmojomnebjhaaa
open Go.RowKit

theorem val_zeros (n : Nat) : Lm.val (List.replicate n 0) = 0 := by
  induction n with
  | zero => rfl
  | succ n ih => rw [List.replicate_succ, Lm.val, ih]

theorem mul_wrap (x a b z : Nat) (h : x + (a * b + z) < 18446744073709551616) : IntKind.u64.wrap ((x : Int) + IntKind.u64.wrap (IntKind.u64.wrap ((a : Int) * b) + z)) = ((x + (a * b + z) : Nat) : Int) := by
  rw [← Int.natCast_mul]
  generalize a * b = p at *
  rw [IntKind.wrap_u64, IntKind.wrap_u64, IntKind.wrap_u64]
  omega
theorem castd (x : Nat) : (x : Int) / 4294967296 = ((x / 4294967296 : Nat) : Int) := by omega
theorem castm (x : Nat) : (x : Int) % 4294967296 = ((x % 4294967296 : Nat) : Int) := by omega
theorem div_small {x : Nat} (h : x < 18446744073709551616) : x / 4294967296 ≤ 4294967295 := by omega

set_option maxHeartbeats 2000000 in
theorem mulLimbs_any (w : World) (A B : Option Addr) (n c m d : Nat) (l k : List Nat) (h : Lim w A n c l) (hn : n ≤ 1000) (h' : Lim w B m d k) (hm : m ≤ 1000) :
    Calls Try.prog 33 #[.slice A n c, .slice B m d] w (SumPost w (n + m) (Lm.val l * Lm.val k)) := by
  have hmk := fun w => make_limbs (n + m) (by omega) w
  simp only [Int.natCast_add] at hmk
  have hll := Lib.hid h.1
  have hkk := Lib.hid h'.1
  have hsl := h.2.2.1
  have hsk := h'.2.2.1
  go_enter Try.func33, Try.ntmps33
  go_wp2
  go_loopw [19] (fun i w' => ∃ (j : Nat) (t : List Nat), j ≤ n ∧ i = .int .i64 (j : Int) ∧ w' = w.alloc (.cells (arr t) 40) ∧ Hid (t.length = n + m) ∧ Lm.Small t ∧ Hid (Lm.val (t.take (j + m)) = Lm.val (l.take j) * Lm.val k)) (fun i _ => n - (intOf i).toNat)
  case atStart => exact ⟨0, List.replicate (n + m) 0, Nat.zero_le _, rfl, rfl, Lib.hid (by simp), Lm.small_replicate _, Lib.hid (by simp [Lm.val]; exact val_zeros _)⟩
  case round =>
    obtain ⟨i, o, hi, rfl, rfl, hol, hos, hinv⟩ := hrel
    by_cases h0 : i < n
    · obtain ⟨b, q, rfl, hb, hcell⟩ := h.2.2.2 (by omega)
      have hg : w.cell? ⟨b, q + i, none⟩ = some (.int .u32 (Lm.lg l i : Nat)) := hcell i h0
      have hl0 : Lm.lg l i ≤ 4294967295 := by have := Lm.lg_lt hsl i; omega
      clear hcell
      go_wp2
      go_loopw [8, 26] (fun u r w' => ∃ (j x : Nat) (t : List Nat), j ≤ m ∧ r = .int .i64 (j : Int) ∧ x ≤ 4294967295 ∧ u = .int .u64 (x : Int) ∧ w' = w.alloc (.cells (arr t) 40) ∧ Hid (t.length = n + m) ∧ Lm.Small t ∧ Hid (∀ p, i + j ≤ p → Lm.lg t p = Lm.lg o p) ∧
        Hid (Lm.val (t.take (i + j)) + 4294967296 ^ (i + j) * x = Lm.val (o.take (i + j)) + 4294967296 ^ i * (Lm.lg l i * Lm.val (k.take j)))) (fun _ r _ => m - (intOf r).toNat)
      case atStart => exact ⟨0, 0, o, Nat.zero_le _, rfl, by omega, rfl, rfl, hol, hos, fun p _ => rfl, Lib.hid (by simp [Lm.val])⟩
      case round =>
        obtain ⟨j, x, t, hj, rfl, hx, rfl, rfl, htl, hts, hold, hin⟩ := hrel
        by_cases h1 : j < m
        · obtain ⟨b', q', rfl, hb', hcell'⟩ := h'.2.2.2 (by omega)
          have hg' : w.cell? ⟨b', q' + j, none⟩ = some (.int .u32 (Lm.lg k j : Nat)) := hcell' j h1
          have hk0 : Lm.lg k j ≤ 4294967295 := by have := Lm.lg_lt hsk j; omega
          have ht0 : Lm.lg t (i + j) ≤ 4294967295 := by have := Lm.lg_lt hts (i + j); omega
          clear hcell'
          have hget := arr_get (t := t) (i := i + j) (by rw [htl.out]; omega)
          have hf := Lm.mul_fits (c := x) (x := Lm.lg l i) (y := Lm.lg k j) (z := Lm.lg t (i + j)) (by omega) (by omega) (by omega) (by omega)
          have hF := Lib.hid hf
          clear hf
          go_wp2
          rw [mul_wrap x _ _ _ hF.out, castd, castm, arr_set]
          exact ⟨⟨j + 1, _, _, by omega, by go_num, div_small hF.out, rfl, rfl, Lib.hid (by rw [List.length_set]; exact htl.out), Lm.small_set hts _ (Nat.mod_lt _ (by decide)), Lib.hid (fun p hp => by rw [Lm.lg_set (by rw [htl.out]; omega), if_neg (by omega)]; exact hold.out p (by omega)), Lib.hid (Lm.mul_step (by rw [htl.out]; omega) hin.out (hold.out _ (Nat.le_refl _)))⟩, by simp [intOf]; omega⟩
        · have hget := arr_get (t := t) (i := i + m) (by rw [htl.out]; omega)
          have hjm : j = m := by omega
          subst hjm
          go_wp2
          rw [arr_set]
          exact ⟨⟨i + 1, _, by omega, by go_num, rfl, Lib.hid (by rw [List.length_set]; exact htl.out), Lm.small_set hts _ (by omega), Lib.hid (by
            have e := Lm.mul_outer (t := t) (o := o) (l := l) (k := k) (i := i) (c := x) (by rw [htl.out, hkk.out]; omega) (by rw [hkk.out]; exact hin.out) (by rw [hkk.out]; exact hinv.out)
            rw [hkk.out] at e
            exact e)⟩, by simp [intOf]; omega⟩
    · have hjn : i = n := by omega
      subst hjn
      go_wp2
      go_ret
      exact ⟨o, rfl, rfl, hol.out, hos, by have e := hinv.out; rw [List.take_of_length_le (by rw [hol.out]; omega), List.take_of_length_le (by rw [hll.out]; omega)] at e; exact e⟩

end Go.Proofs.Ytlmojomnebjhaaa
