/-
  CONTRACTS OF THE LAWS' OWN FUNCTIONS ON INTEGERS (beehiveref1): may, plus, minus, Of.
-/
import Derived.Test.YtlmojomnebjhaaaRefA
namespace Go.Proofs.Ytlmojomnebjhaaa
open Go.RowKit

set_option maxHeartbeats 1000000 in
theorem refMayB_any (w : World) (base : Nat) (s : Bool) (A : Option Addr) (n c : Nat) (z : Int) (hs : Hid (s = decide (z < 0))) (ho : Own w base A n c (Lm.digits z.natAbs)) :
    Calls Try.prog 34 #[.agg #[.bool s, .slice A n c]] w (NumPostB w base (clip z) (fits z)) := by
  have htop : n ≤ 8 ↔ z.natAbs < Lm.top := by rw [← ho.2.1]; exact Lm.top_iff _
  have hT := Lib.hid htop
  clear htop
  by_cases h8 : n ≤ 8
  · have e1 := Lib.hid (clip_small (hT.out.1 h8))
    have e2 := Lib.hid (fits_small (hT.out.1 h8))
    go_enter Try.func34, Try.ntmps34
    go_wp2
    refine bodyPost_ret (v := .tuple #[.agg #[.bool s, .slice A n c], .bool true]) (by simp [results, Try.results34, go_sem]) rfl ?_
    rw [e1.out, e2.out]
    exact ⟨_, rfl, ⟨s, A, n, c, rfl, hs, ho.below (((Below.refl w.heap.size w).alloc (Nat.le_refl _) _).alloc (by simp) _)⟩, ((Below.refl w.heap.size w).alloc (Nat.le_refl _) _).alloc (by simp) _⟩
  · have hnot : ¬ z.natAbs < Lm.top := fun h => h8 (hT.out.2 h)
    have e1 := Lib.hid (show clip z = 0 from if_neg hnot)
    have e2 := Lib.hid (show fits z = false from decide_eq_false hnot)
    clear hnot
    go_enter Try.func34, Try.ntmps34
    go_wp2
    refine bodyPost_ret (v := .tuple #[.agg #[.bool false, .slice none 0 0], .bool false]) (by simp [results, Try.results34, go_sem]) rfl ?_
    rw [e1.out, e2.out]
    exact ⟨_, rfl, NumV.zero _ _, ((Below.refl w.heap.size w).alloc (Nat.le_refl _) _).alloc (by simp) _⟩

theorem val_snoc {t : List Nat} {j : Nat} (hl : t.length = j) (x : Nat) : Lm.val (t ++ [x]) = Lm.val t + 4294967296 ^ j * x := by
  rw [Lm.val_append, hl]; simp [Lm.val]
theorem add_snoc {t l k : List Nat} {j c : Nat} (hl : t.length = j) (h : Lm.val t + 4294967296 ^ j * c = Lm.val (l.take j) + Lm.val (k.take j)) :
    Lm.val (t ++ [(Lm.lg l j + Lm.lg k j + c) % 4294967296]) + 4294967296 ^ (j + 1) * ((Lm.lg l j + Lm.lg k j + c) / 4294967296) = Lm.val (l.take (j + 1)) + Lm.val (k.take (j + 1)) := by
  rw [val_snoc hl, Lm.val_take_succ l, Lm.val_take_succ k, Nat.pow_succ, Nat.mul_assoc]
  have e : (Lm.lg l j + Lm.lg k j + c) % 4294967296 + 4294967296 * ((Lm.lg l j + Lm.lg k j + c) / 4294967296) = Lm.lg l j + Lm.lg k j + c := Nat.mod_add_div _ _
  have e2 : 4294967296 ^ j * ((Lm.lg l j + Lm.lg k j + c) % 4294967296) + 4294967296 ^ j * (4294967296 * ((Lm.lg l j + Lm.lg k j + c) / 4294967296)) = 4294967296 ^ j * Lm.lg l j + 4294967296 ^ j * Lm.lg k j + 4294967296 ^ j * c := by
    rw [← Nat.mul_add, e, Nat.mul_add, Nat.mul_add]
  generalize 4294967296 ^ j * ((Lm.lg l j + Lm.lg k j + c) % 4294967296) = u at *
  generalize 4294967296 ^ j * (4294967296 * ((Lm.lg l j + Lm.lg k j + c) / 4294967296)) = v at *
  omega
theorem sub_snoc {t l k : List Nat} {j b x b' : Nat} (hl : t.length = j) (h : Lm.val (l.take j) + 4294967296 ^ j * b = Lm.val t + Lm.val (k.take j)) (hx : Lm.lg l j + 4294967296 * b' = x + Lm.lg k j + b) :
    Lm.val (l.take (j + 1)) + 4294967296 ^ (j + 1) * b' = Lm.val (t ++ [x]) + Lm.val (k.take (j + 1)) := by
  rw [val_snoc hl, Lm.val_take_succ l, Lm.val_take_succ k, Nat.pow_succ, Nat.mul_assoc]
  have e2 : 4294967296 ^ j * Lm.lg l j + 4294967296 ^ j * (4294967296 * b') = 4294967296 ^ j * x + 4294967296 ^ j * Lm.lg k j + 4294967296 ^ j * b := by
    rw [← Nat.mul_add, hx, Nat.mul_add, Nat.mul_add]
  generalize 4294967296 ^ j * (4294967296 * b') = v at *
  omega
theorem add_whole {t l k : List Nat} {N x : Nat} (hs : Lm.Small l) (hs' : Lm.Small k) (hl : l.length ≤ N) (hk : k.length ≤ N) (h : Lm.val t + 4294967296 ^ (N + 1) * x = Lm.val (l.take (N + 1)) + Lm.val (k.take (N + 1))) : Lm.val t = Lm.val l + Lm.val k := by
  rw [List.take_of_length_le (by omega), List.take_of_length_le (by omega)] at h
  have h1 : Lm.val l < 4294967296 ^ N := Nat.lt_of_lt_of_le (Lm.val_lt hs) (Nat.pow_le_pow_right (by decide) hl)
  have h2 : Lm.val k < 4294967296 ^ N := Nat.lt_of_lt_of_le (Lm.val_lt hs') (Nat.pow_le_pow_right (by decide) hk)
  have h3 : 4294967296 ^ (N + 1) = 4294967296 ^ N * 4294967296 := Nat.pow_succ ..
  generalize 4294967296 ^ (N + 1) = Q at *
  generalize 4294967296 ^ N = P at *
  generalize Lm.val l = u at *
  generalize Lm.val k = v at *
  generalize Lm.val t = y at *
  rcases Nat.eq_zero_or_pos x with h0 | h0
  · subst h0
    rw [Nat.mul_zero] at h
    omega
  · have h4 : Q * 1 ≤ Q * x := Nat.mul_le_mul_left _ h0
    generalize Q * x = q at *
    omega
theorem sub_whole {t l k : List Nat} {b : Nat} (hs : Lm.Small t) (ht : t.length = l.length) (hk : k.length ≤ l.length) (hle : Lm.val k ≤ Lm.val l)
    (h : Lm.val (l.take l.length) + 4294967296 ^ l.length * b = Lm.val t + Lm.val (k.take l.length)) : Lm.val t = Lm.val l - Lm.val k := by
  refine Lm.sub_end hs ht hk hle (b := b) ?_
  rw [List.take_of_length_le (l := t) (by omega)]
  exact h
theorem sub_wrap2 (a b x : Nat) (ha : a ≤ 4294967295) (hb : b ≤ 4294967295) (hx : x ≤ 1) :
    ∃ y b' : Nat, IntKind.u64.wrap (IntKind.u64.wrap ((a : Int) - b) - x) % 4294967296 = (y : Int) ∧ IntKind.u64.wrap (IntKind.u64.wrap ((a : Int) - b) - x) / 9223372036854775808 = (b' : Int) ∧ b' ≤ 1 ∧ y < 4294967296 ∧ a + 4294967296 * b' = y + b + x := by
  rw [IntKind.wrap_u64, IntKind.wrap_u64]
  refine ⟨((((a : Int) - b) % 18446744073709551616 - x) % 18446744073709551616 % 4294967296).toNat, ((((a : Int) - b) % 18446744073709551616 - x) % 18446744073709551616 / 9223372036854775808).toNat, ?_, ?_, ?_, ?_, ?_⟩ <;> omega
theorem arr_one (x : Nat) : (#[Value.int .u32 (x : Int)] : Array Value) = arr [x] := rfl
theorem one_small {x : Nat} (h : x < 4294967296) : Lm.Small [x] := by intro y hy; simp at hy; omega

/-- append(row, limb). -/
theorem append_one (w : World) (base : Nat) (A0 : Option Addr) (n0 c0 : Nat) (l0 : List Nat) (hown : Own w base A0 n0 c0 l0) (x : Nat) (hx : x < 4294967296) (hn : n0 + 1 ≤ 100000) (hbase : base ≤ w.heap.size) (ty : TypeId) :
    ∃ A' c' w', (Builtin.append_ #[22, 22] ty #[.slice A0 n0 c0, .slice (some ⟨w.heap.size, 0, none⟩) 1 1]).run Try.prog (w.alloc (.cells #[.int .u32 (x : Int)] 40)) = .ok (.slice A' (n0 + 1) c') w' ∧ Own w' base A' (n0 + 1) c' (l0 ++ [x]) ∧ Below base w w' := by
  have hA := (Below.refl w.heap.size w).alloc (Nat.le_refl _) (.cells #[.int .u32 (x : Int)] 40)
  obtain ⟨A', c', w', h1, h2, h3⟩ := append_lim (w.alloc (.cells #[.int .u32 (x : Int)] 40)) base A0 n0 c0 l0 (hown.below hA) (some ⟨w.heap.size, 0, none⟩) 1 1 [x] (Lim.new w [x] (one_small hx)) hn (Nat.le_trans hbase hA.size) ty
  exact ⟨A', c', w', h1, h2, (hA.mono hbase).trans h3⟩

set_option maxHeartbeats 1000000 in
theorem plus_any (w : World) (A B : Option Addr) (n c m d : Nat) (l k : List Nat) (hA : Lim w A n c l) (hn : n ≤ 1000) (hB : Lim w B m d k) (hm : m ≤ 1000) :
    Calls Try.prog 36 #[.slice A n c, .slice B m d] w (RowPost w (max n m + 1) (Lm.val l + Lm.val k)) := by
  have hll := Lib.hid hA.1
  have hkk := Lib.hid hB.1
  have hsl := hA.2.2.1
  have hsk := hB.2.2.1
  obtain ⟨N, hN⟩ : ∃ N, N = max n m := ⟨_, rfl⟩
  rw [← hN]
  have hN1 : n ≤ N := by omega
  have hN2 : m ≤ N := by omega
  have hN3 : N ≤ 1000 := by omega
  have HN := Lib.hid hN
  clear hN
  go_enter Try.func36, Try.ntmps36
  go_wp2
  go_loopw [5, 6, 7] (fun o u i w' => ∃ (j x : Nat) (A' : Option Addr) (c' : Nat) (t : List Nat), j ≤ N + 1 ∧ i = .int .i64 (j : Int) ∧ x ≤ 1 ∧ u = .int .u64 (x : Int) ∧ o = .slice A' j c' ∧ Own w' w.heap.size A' j c' t ∧ Below w.heap.size w w' ∧ Hid (Lm.val t + 4294967296 ^ j * x = Lm.val (l.take j) + Lm.val (k.take j))) (fun _ _ i _ => N + 1 - (intOf i).toNat)
  case atStart => exact ⟨0, 0, none, 0, [], Nat.zero_le _, rfl, by omega, rfl, rfl, Own.nil _ _, Below.refl _ _, Lib.hid (by simp [Lm.val])⟩
  case round =>
    obtain ⟨j, x, A', c', t, hj, rfl, hx, rfl, rfl, ho, hbl, hinv⟩ := hrel
    by_cases h0 : j ≤ N
    · have hl0 : Lm.lg l j ≤ 4294967295 := by have := Lm.lg_lt hsl j; omega
      have hk0 : Lm.lg k j ≤ 4294967295 := by have := Lm.lg_lt hsk j; omega
      rcases Nat.lt_or_ge n m with hmx | hmx
      · have hjm : decide (j ≤ m) = true := by rw [decide_eq_true_iff]; have := HN.out; omega
        go_wp2_with fail
        refine (at_any wr A n c l j (hA.below hbl) (by omega)).mono ?_
        rintro e w' ⟨rfl, rfl⟩
        go_wp2_with fail
        refine (at_any wr B m d k j (hB.below hbl) (by omega)).mono ?_
        rintro e w' ⟨rfl, rfl⟩
        obtain ⟨A2, c2, w2, hrun, hO2, hB2⟩ := append_one wr w.heap.size A' j c' t ho ((Lm.lg l j + Lm.lg k j + x) % 4294967296) (Nat.mod_lt _ (by decide)) (by omega) hbl.size 22
        rw [← cast3m] at hrun
        have hR := Lib.hid hrun
        clear hrun
        go_wp2_with (at_builtin; refine wpList_append_run rfl _ _ _ rfl _ _ _ rfl rfl hR.out ?_)
        rw [cast3d]
        exact ⟨⟨j + 1, _, A2, c2, _, by omega, by go_num, by omega, rfl, rfl, hO2, hbl.trans hB2, Lib.hid (add_snoc ho.2.1 hinv.out)⟩, by simp [intOf]; omega⟩
      · have hmx' : ¬ n < m := by omega
        have hjm : decide (j ≤ n) = true := by rw [decide_eq_true_iff]; have := HN.out; omega
        go_wp2_with fail
        refine (at_any wr A n c l j (hA.below hbl) (by omega)).mono ?_
        rintro e w' ⟨rfl, rfl⟩
        go_wp2_with fail
        refine (at_any wr B m d k j (hB.below hbl) (by omega)).mono ?_
        rintro e w' ⟨rfl, rfl⟩
        obtain ⟨A2, c2, w2, hrun, hO2, hB2⟩ := append_one wr w.heap.size A' j c' t ho ((Lm.lg l j + Lm.lg k j + x) % 4294967296) (Nat.mod_lt _ (by decide)) (by omega) hbl.size 22
        rw [← cast3m] at hrun
        have hR := Lib.hid hrun
        clear hrun
        go_wp2_with (at_builtin; refine wpList_append_run rfl _ _ _ rfl _ _ _ rfl rfl hR.out ?_)
        rw [cast3d]
        exact ⟨⟨j + 1, _, A2, c2, _, by omega, by go_num, by omega, rfl, rfl, hO2, hbl.trans hB2, Lib.hid (add_snoc ho.2.1 hinv.out)⟩, by simp [intOf]; omega⟩
    · have hjN : j = N + 1 := by omega
      subst hjN
      have fin := Lib.hid (add_whole hsl hsk (by rw [hll.out]; exact hN1) (by rw [hkk.out]; exact hN2) hinv.out)
      have hd1 : decide (N + 1 ≤ m) = false := by rw [decide_eq_false_iff_not]; omega
      have hd2 : decide (N + 1 ≤ n) = false := by rw [decide_eq_false_iff_not]; omega
      rcases Nat.lt_or_ge n m with hmx | hmx
      · go_wp2
        go_ret
        exact ⟨A', c', t, rfl, ho, fin.out, hbl⟩
      · have hmx' : ¬ n < m := by omega
        go_wp2
        go_ret
        exact ⟨A', c', t, rfl, ho, fin.out, hbl⟩

set_option maxHeartbeats 1000000 in
theorem minus_any (w : World) (A B : Option Addr) (n c m d : Nat) (l k : List Nat) (h : Lim w A n c l) (hn : n ≤ 1000) (h' : Lim w B m d k) (hmn : m ≤ n) (hle : Lm.val k ≤ Lm.val l) :
    Calls Try.prog 38 #[.slice A n c, .slice B m d] w (RowPost w n (Lm.val l - Lm.val k)) := by
  have hll := Lib.hid h.1
  have hkk := Lib.hid h'.1
  have hsl := h.2.2.1
  have hsk := h'.2.2.1
  go_enter Try.func38, Try.ntmps38
  go_wp2
  go_loopw [5, 6, 7] (fun o u i w' => ∃ (j x : Nat) (A' : Option Addr) (c' : Nat) (t : List Nat), j ≤ n ∧ i = .int .i64 (j : Int) ∧ x ≤ 1 ∧ u = .int .u64 (x : Int) ∧ o = .slice A' j c' ∧ Own w' w.heap.size A' j c' t ∧ Below w.heap.size w w' ∧ Hid (Lm.val (l.take j) + 4294967296 ^ j * x = Lm.val t + Lm.val (k.take j))) (fun _ _ i _ => n - (intOf i).toNat)
  case atStart => exact ⟨0, 0, none, 0, [], Nat.zero_le _, rfl, by omega, rfl, rfl, Own.nil _ _, Below.refl _ _, Lib.hid (by simp [Lm.val])⟩
  case round =>
    obtain ⟨j, x, A', c', t, hj, rfl, hx, rfl, rfl, ho, hbl, hinv⟩ := hrel
    by_cases h0 : j < n
    · have hl0 : Lm.lg l j ≤ 4294967295 := by have := Lm.lg_lt hsl j; omega
      have hk0 : Lm.lg k j ≤ 4294967295 := by have := Lm.lg_lt hsk j; omega
      go_wp2_with fail
      refine (at_any wr A n c l j (h.below hbl) (by omega)).mono ?_
      rintro e w' ⟨rfl, rfl⟩
      go_wp2_with fail
      refine (at_any wr B m d k j (h'.below hbl) (by omega)).mono ?_
      rintro e w' ⟨rfl, rfl⟩
      obtain ⟨y, b1, e1, e2, g1, g2, g3⟩ := sub_wrap2 (Lm.lg l j) (Lm.lg k j) x hl0 hk0 hx
      obtain ⟨A2, c2, w2, hrun, hO2, hB2⟩ := append_one wr w.heap.size A' j c' t ho y g2 (by omega) hbl.size 22
      rw [← e1] at hrun
      have hR := Lib.hid hrun
      have E2 := Lib.hid e2
      clear hrun e1 e2
      go_wp2_with (at_builtin; refine wpList_append_run rfl _ _ _ rfl _ _ _ rfl rfl hR.out ?_)
      rw [E2.out]
      exact ⟨⟨j + 1, b1, A2, c2, t ++ [y], by omega, by go_num, g1, rfl, rfl, hO2, hbl.trans hB2, Lib.hid (sub_snoc ho.2.1 hinv.out g3)⟩, by simp [intOf]; omega⟩
    · have hjn : j = n := by omega
      subst hjn
      have fin := Lib.hid (sub_whole (b := x) ho.1 (by rw [ho.2.1, hll.out]) (by rw [hll.out, hkk.out]; exact hmn) hle (by rw [hll.out]; exact hinv.out))
      go_wp2
      go_ret
      exact ⟨A', c', t, rfl, ho, fin.out, hbl⟩

end Go.Proofs.Ytlmojomnebjhaaa
