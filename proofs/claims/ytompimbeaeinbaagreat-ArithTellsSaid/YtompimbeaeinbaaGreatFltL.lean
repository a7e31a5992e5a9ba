/-
  CONTRACT OF real.nearest, real.Of.
-/
import Derived.Test.YtompimbeaeinbaaGreatFltJ
namespace Go.Proofs.YtompimbeaeinbaaGreat
open Go.RowKit

set_option maxRecDepth 100000 in
theorem floatOf_nat (v : Nat) : floatOfInt .f64 (v : Int) = Fl.ofN v := by
  show Ieee.double.nearest (decide ((v : Int) < 0)) ((v : Int)).natAbs 0 = _
  rw [decide_eq_false (by omega), Int.natAbs_natCast]
  have := Fl.near0 false v 1074
  rw [show (-1074 + ((1074 : Nat) : Int)) = 0 by omega] at this
  rw [this, Fl.word_false, Fl.ofN_def, Fl.U_def, Fl.K_eq]

set_option maxRecDepth 100000 in
set_option maxHeartbeats 1000000 in
theorem nearest_short (w : World) (A : Option Addr) (n c : Nat) (l : List Nat) (h : Lim w A n c l) (hn : n < 3) :
    Calls Tryz.prog 75 #[.slice A n c] w fun e w' => e = .returned (.float .f64 (Fl.ofN (Lm.val l))) ∧ w = w' := by
  have f1 := floatOf_nat (Lm.val l)
  go_enter Tryz.func75, Tryz.ntmps75
  go_wp2_with (go_at_call 89; refine (lowest_any _ _ _ _ _ h (by omega)).mono ?_; rintro r w' ⟨rfl, rfl⟩)
  go_ret
  exact ⟨rfl, rfl⟩

set_option maxRecDepth 100000 in
theorem Lim.drop {w : World} {n c : Nat} {l : List Nat} {b o : Nat} (h : Lim w (some ⟨b, o, none⟩) n c l) (k : Nat) (hk : k ≤ n) : Lim w (some ⟨b, o + k, none⟩) (n - k) (c - k) (l.drop k) := by
  refine ⟨by rw [List.length_drop, h.1], Nat.sub_le_sub_right h.2.1 k, fun x hx => h.2.2.1 x (List.mem_of_mem_drop hx), fun hn => ?_⟩
  obtain ⟨b', o', e, hlt, hc⟩ := h.2.2.2 (by omega)
  injection e with e
  injection e with e1 e2
  subst e1 e2
  refine ⟨b, o + k, rfl, hlt, fun j hj => ?_⟩
  rw [Nat.add_assoc, hc (k + j) (by omega)]
  simp [Lm.lg]

namespace Fl
set_option maxRecDepth 100000 in
theorem log2_eq {q k : Nat} (h1 : 2 ^ k ≤ q) (h2 : q < 2 ^ (k + 1)) : q.log2 = k := by
  have hp := Nat.two_pow_pos k
  have h0 : q ≠ 0 := by omega
  have a1 := (Nat.log2_lt h0).2 h2
  have a2 := (Nat.le_log2 h0).2 h1
  omega
set_option maxRecDepth 100000 in
/-- The highest 64 bits, and what lies below them. -/
theorem near_num {V lo m hi d j : Nat} (hV : V = lo + 2 ^ (32 * j) * (m + 2 ^ 32 * hi)) (hlo : lo < 2 ^ (32 * j)) (hm : m < 2 ^ 32) (h1 : 2 ^ (63 - d) ≤ hi) (h2 : hi < 2 ^ (64 - d)) (hd : d ≤ 31) (hj : j ≤ 5) :
    (m * 2 ^ d % 2 ^ 32 = 0 → lo = 0 → ofN V = ofN (hi * 2 ^ d + m * 2 ^ d / 2 ^ 32) + (32 * (j + 1) - d) * B) ∧
    ((m * 2 ^ d % 2 ^ 32 ≠ 0 ∨ lo ≠ 0) → ofN V = ofN ((hi * 2 ^ d + m * 2 ^ d / 2 ^ 32) / 2 * 2 + 1) + (32 * (j + 1) - d) * B) ∧
    2 ^ 63 ≤ hi * 2 ^ d + m * 2 ^ d / 2 ^ 32 ∧ hi * 2 ^ d + m * 2 ^ d / 2 ^ 32 < 2 ^ 64 := by
  have e32 : 2 ^ 32 = 2 ^ (32 - d) * 2 ^ d := by rw [← Nat.pow_add]; congr 1; omega
  have hD := Nat.two_pow_pos d
  have hP := Nat.two_pow_pos (32 - d)
  have e1 : m * 2 ^ d / 2 ^ 32 = m / 2 ^ (32 - d) := by rw [e32, Nat.mul_div_mul_right _ _ hD]
  have e2 : m * 2 ^ d % 2 ^ 32 = m % 2 ^ (32 - d) * 2 ^ d := by rw [e32, Nat.mul_mod_mul_right]
  rw [e1, e2]
  have hx : m / 2 ^ (32 - d) < 2 ^ d := by rw [Nat.div_lt_iff_lt_mul hP, Nat.mul_comm, ← e32]; exact hm
  have hq1 : 2 ^ 63 ≤ hi * 2 ^ d + m / 2 ^ (32 - d) := by
    have : 2 ^ (63 - d) * 2 ^ d = 2 ^ 63 := by rw [← Nat.pow_add]; congr 1; omega
    have := Nat.mul_le_mul_right (2 ^ d) h1
    omega
  have hq2 : hi * 2 ^ d + m / 2 ^ (32 - d) < 2 ^ 64 := by
    have a1 : 2 ^ (64 - d) * 2 ^ d = 2 ^ 64 := by rw [← Nat.pow_add]; congr 1; omega
    have a2 := Nat.mul_le_mul_right (2 ^ d) (Nat.succ_le_of_lt h2)
    rw [Nat.succ_mul] at a2
    omega
  have hlog : (hi * 2 ^ d + m / 2 ^ (32 - d)).log2 = 63 := log2_eq hq1 hq2
  have hlog' : ((hi * 2 ^ d + m / 2 ^ (32 - d)) / 2 * 2 + 1).log2 = 63 := log2_eq (by omega) (by omega)
  have hk : 2 ^ (32 * (j + 1) - d) = 2 ^ (32 * j) * 2 ^ (32 - d) := by rw [← Nat.pow_add]; congr 1; omega
  have hVq : V = (hi * 2 ^ d + m / 2 ^ (32 - d)) * 2 ^ (32 * (j + 1) - d) + (2 ^ (32 * j) * (m % 2 ^ (32 - d)) + lo) := by
    have hm' := Nat.div_add_mod m (2 ^ (32 - d))
    rw [hV, hk]
    have a1 : m + 2 ^ 32 * hi = 2 ^ (32 - d) * (hi * 2 ^ d + m / 2 ^ (32 - d)) + m % 2 ^ (32 - d) := by
      rw [Nat.mul_add, e32, ← Nat.mul_assoc, Nat.mul_right_comm]
      omega
    rw [a1, Nat.mul_add, ← Nat.mul_assoc, Nat.mul_comm (2 ^ (32 * j) * 2 ^ (32 - d))]
    omega
  have hr : 2 ^ (32 * j) * (m % 2 ^ (32 - d)) + lo < 2 ^ (32 * (j + 1) - d) := by
    rw [hk]
    have a1 := Nat.mod_lt m hP
    have a2 := Nat.mul_le_mul_left (2 ^ (32 * j)) (Nat.succ_le_of_lt a1)
    rw [Nat.mul_succ] at a2
    omega
  have hB := Nat.two_pow_pos (32 * j)
  generalize hi * 2 ^ d + m / 2 ^ (32 - d) = q at *
  generalize hrr : 2 ^ (32 * j) * (m % 2 ^ (32 - d)) + lo = r at *
  refine ⟨fun a b => ?_, fun a => ?_, hq1, hq2⟩
  · have a' : m % 2 ^ (32 - d) = 0 := by
      rcases Nat.mul_eq_zero.1 a with a | a
      · exact a
      · omega
    have r0 : r = 0 := by rw [← hrr, a', b, Nat.mul_zero]
    rw [hVq, r0, Nat.add_zero, ofN_mul (by omega) (by omega)]
  · have r0 : 0 < r := by
      rw [← hrr]
      rcases a with a | a
      · have : 0 < m % 2 ^ (32 - d) := by
          rcases Nat.eq_zero_or_pos (m % 2 ^ (32 - d)) with h | h
          · rw [h, Nat.zero_mul] at a; exact absurd rfl a
          · exact h
        have := Nat.mul_pos hB this
        omega
      · omega
    rw [hVq, sticky (by omega) hr r0 (by omega), ofN_mul (by omega) (by omega)]
set_option maxRecDepth 100000 in
/-- A float of 64 bits lies not beyond. -/
theorem ofN_64 {q : Nat} (h : q < 2 ^ 64) : ofN q ≤ 1088 * B := by
  by_cases h0 : q = 0
  · subst h0; rw [ofN_zero]; exact Nat.zero_le _
  have hl : q.log2 ≤ 63 := by
    have := (Nat.log2_lt h0).2 h
    omega
  have hub : rne (q * U) (q.log2 + 1022) ≤ 2 * B := by
    have h1 : q * U / 2 ^ (q.log2 + 1022) < 2 * B := by
      rw [Nat.div_lt_iff_lt_mul (Nat.two_pow_pos _), ← two53, ← Nat.pow_add, U_def, show 53 + (q.log2 + 1022) = q.log2 + 1 + K by have := K_eq; omega, Nat.pow_add]
      exact Nat.mul_lt_mul_of_pos_right (log2_pos h0).2 (Nat.two_pow_pos _)
    unfold rne
    split <;> omega
  unfold ofN R
  rw [U_log2 _ h0, show max (q.log2 + 1074 - 52) 0 = q.log2 + 1022 by omega, Nat.sub_zero]
  have : (q.log2 + 1022) * B ≤ 1085 * B := Nat.mul_le_mul_right _ (by omega)
  omega
end Fl
set_option maxRecDepth 100000 in
theorem pos_of {q : Nat} (h0 : q ≠ 0) (h : q < 2 ^ 64) : Pos (Fl.ofN q) ∧ Fl.ofN q / 4503599627370496 ≤ 1088 := by
  have h1 := Fl.ofN_pos (N := q) (by omega)
  have h2 := Fl.ofN_64 h
  have e : Fl.B = 4503599627370496 := rfl
  exact ⟨⟨by omega, by omega⟩, by omega⟩
set_option maxRecDepth 100000 in
theorem wrap_shl {m d : Nat} (h : m * 2 ^ d < 18446744073709551616) : IntKind.u64.wrap ((m : Int) * 2 ^ d) = ((m * 2 ^ d : Nat) : Int) := by
  rw [IntKind.wrap_u64]
  have : (m : Int) * 2 ^ d = ((m * 2 ^ d : Nat) : Int) := by push_cast; rfl
  rw [this]
  omega
set_option maxRecDepth 100000 in
theorem or_join' {x y : Nat} (k : Nat) (hx : x < 2 ^ k) (h64 : y * 2 ^ k + x < 18446744073709551616) : bits .or .u64 ((y * 2 ^ k : Nat) : Int) (x : Int) = ((y * 2 ^ k + x : Nat) : Int) := by
  rw [u64_or _ _ (by omega) (by omega) (by omega) (by omega), Int.toNat_natCast, Int.toNat_natCast, Nat.or_comm, or_apart k hx, Nat.add_comm]
set_option maxRecDepth 100000 in
theorem or_odd {q : Nat} (h : q < 18446744073709551616) : bits .or .u64 (q : Int) 1 = ((q / 2 * 2 + 1 : Nat) : Int) := by
  rw [u64_or _ _ (by omega) (by omega) (by omega) (by omega), Int.toNat_natCast, show (1 : Int).toNat = 1 from rfl]
  have e1 : (q ||| 1) / 2 ^ 1 = q / 2 := by
    rw [Nat.or_div_two_pow]; simp
  have e2 : (q ||| 1) % 2 ^ 1 = 1 := by
    rw [Nat.or_mod_two_pow]
    rcases Nat.mod_two_eq_zero_or_one q with h | h <;> simp [h]
  have := Nat.div_add_mod (q ||| 1) (2 ^ 1)
  rw [e1, e2] at this
  omega
set_option maxRecDepth 100000 in
/-- Limbs in three parts. -/
theorem val_parts {l : List Nat} {n : Nat} (hl : l.length = n) (hn : 3 ≤ n) : Lm.val l = Lm.val (l.take (n - 3)) + 2 ^ (32 * (n - 3)) * (Lm.lg l (n - 3) + 2 ^ 32 * Lm.val (l.drop (n - 2))) := by
  have h1 := Lm.val_append (l.take (n - 2)) (l.drop (n - 2))
  rw [List.take_append_drop] at h1
  have h2 := Lm.val_take_succ l (n - 3)
  rw [show n - 3 + 1 = n - 2 by omega] at h2
  have h3 : (l.take (n - 2)).length = n - 2 := by rw [List.length_take]; omega
  have e1 : 4294967296 ^ (n - 3) = 2 ^ (32 * (n - 3)) := by rw [Nat.pow_mul]
  have e2 : 4294967296 ^ (n - 2) = 2 ^ (32 * (n - 3)) * 2 ^ 32 := by rw [← Nat.pow_add, show 32 * (n - 3) + 32 = 32 * (n - 2) by omega, Nat.pow_mul]
  rw [h1, h2, h3, e1, e2, Nat.mul_add, Nat.mul_assoc, Nat.add_assoc]
set_option maxRecDepth 100000 in
theorem val_top2 {l : List Nat} {n : Nat} (hs : Lm.Small l) (hl : l.length = n) (hn : 3 ≤ n) (ht : Lm.lg l (n - 1) ≠ 0) :
    2 ^ (32 + (Lm.lg l (n - 1)).log2) ≤ Lm.val (l.drop (n - 2)) ∧ Lm.val (l.drop (n - 2)) < 2 ^ (32 + (Lm.lg l (n - 1)).log2 + 1) := by
  have e0 : l.drop (n - 2) = [Lm.lg l (n - 2), Lm.lg l (n - 1)] := by
    apply List.ext_getElem
    · rw [List.length_drop]; simp; omega
    · intro i h1 h2
      simp at h2
      have : i = 0 ∨ i = 1 := by omega
      rcases this with rfl | rfl
      · simp [Lm.lg]; rw [List.getElem?_eq_getElem (by omega)]; rfl
      · simp [Lm.lg, show n - 2 + 1 = n - 1 by omega]; rw [List.getElem?_eq_getElem (by omega)]; rfl
  have h1 := Lm.lg_lt hs (n - 2)
  obtain ⟨l1, l2⟩ := Fl.log2_pos ht
  rw [e0]
  simp only [Lm.val]
  rw [show 32 + (Lm.lg l (n - 1)).log2 + 1 = 32 + ((Lm.lg l (n - 1)).log2 + 1) by omega, Nat.pow_add, Nat.pow_add]
  omega

set_option maxRecDepth 100000 in
set_option maxRecDepth 100000 in
set_option maxHeartbeats 4000000 in
theorem nearest_long (w : World) (A : Option Addr) (n c : Nat) (l : List Nat) (h : Lim w A n c l) (hn : 3 ≤ n) (hn8 : n ≤ 8) (_hc : c ≤ maxLen) (ht : Lm.lg l (n - 1) ≠ 0) :
    Calls Tryz.prog 75 #[.slice A n c] w fun e w' => e = .returned (.float .f64 (Fl.ofN (Lm.val l))) ∧ w = w' := by
  obtain ⟨b, o, rfl, hlt, hcell⟩ := h.2.2.2 (by omega)
  have hnc := h.2.1
  have g1 := hcell (n - 1) (by omega)
  have g3 := hcell (n - 3) (by omega)
  clear hcell
  have hs1 := Lm.lg_lt h.2.2.1 (n - 1)
  have hs3 := Lm.lg_lt h.2.2.1 (n - 3)
  unfold maxLen at _hc
  have hl : (Lm.lg l (n - 1)).log2 ≤ 31 := by
    have := (Nat.log2_lt (n := Lm.lg l (n - 1)) (k := 32) ht).2 (by omega)
    omega
  have t2 := val_top2 h.2.2.1 h.1 hn ht
  obtain ⟨d, hd⟩ : ∃ d, d = 31 - (Lm.lg l (n - 1)).log2 := ⟨_, rfl⟩
  have hd31 : d ≤ 31 := by omega
  have lz := fun w => lz_any (Lm.lg l (n - 1)) w ht hs1
  rw [← hd] at lz
  rw [show 32 + (Lm.lg l (n - 1)).log2 = 63 - d by omega, show 63 - d + 1 = 64 - d by omega] at t2
  have hlo : Lm.val (l.take (n - 3)) < 2 ^ (32 * (n - 3)) := by
    have := Lm.val_lt (Lm.small_take h.2.2.1 (n - 3))
    rwa [List.length_take, h.1, Nat.min_eq_left (by omega), show 4294967296 = 2 ^ 32 from rfl, ← Nat.pow_mul] at this
  obtain ⟨N1, N2, N3, N4⟩ := Fl.near_num (val_parts h.1 hn) hlo hs3 t2.1 t2.2 hd31 (by omega)
  rw [show 32 * (n - 3 + 1) - d = 32 * (n - 2) - d by omega] at N1 N2
  have hm64 : Lm.lg l (n - 3) * 2 ^ d < 18446744073709551616 := by
    have : 2 ^ d ≤ 2 ^ 31 := Nat.pow_le_pow_right (by omega) hd31
    have := Nat.mul_le_mul (Nat.le_of_lt hs3) this
    omega
  have w1 := wrap_shl hm64
  have hlow := fun w' (hw : w = w') => lowest_any w' _ _ _ _ (hw ▸ h.drop (n - 2) (by omega)) (by omega)
  have haz := fun w' (hw : w = w') => allZero_any w' _ _ _ _ (hw ▸ h.take (n - 3) (by omega)) (by omega)
  generalize hhi : Lm.val (l.drop (n - 2)) = hi at *
  generalize hmm : Lm.lg l (n - 3) = m at *
  have hh64 : hi * 2 ^ d < 18446744073709551616 := by omega
  have w2 := wrap_shl hh64
  have hx : m * 2 ^ d / 2 ^ 32 < 2 ^ d := by
    rw [Nat.div_lt_iff_lt_mul (by decide), Nat.mul_comm]
    exact Nat.mul_lt_mul_of_pos_left hs3 (Nat.two_pow_pos d)
  have w3 := or_join' (x := m * 2 ^ d / 2 ^ 32) (y := hi) d hx (by omega)
  have hk : Hid ((32 : Int) * ((n : Int) - 2) - (d : Int) = ((32 * (n - 2) - d : Nat) : Int)) := Lib.hid (by omega)
  have hkb : 32 * (n - 2) - d ≤ 192 := by omega
  generalize 32 * (n - 2) - d = k at *
  generalize hq : hi * 2 ^ d + m * 2 ^ d / 2 ^ 32 = q at *
  have w4 := or_odd (q := q) (by omega)
  have P1 := pos_of (q := q) (by omega) N4
  have P2 := pos_of (q := q / 2 * 2 + 1) (by omega) (by omega)
  have f1 := floatOf_nat q
  have f2 := floatOf_nat (q / 2 * 2 + 1)
  have L1 := fun w => Ldexp_pos w _ k P1.1 (by have := P1.2; omega)
  have L2 := fun w => Ldexp_pos w _ k P2.1 (by have := P2.2; omega)
  generalize q / 2 * 2 + 1 = q1 at *
  generalize Lm.val l = V at *
  generalize hlo' : Lm.val (l.take (n - 3)) = lo at *
  clear t2 hd ht hl hlo hhi hmm hx hq
  generalize hA : m * 2 ^ d = a at *
  generalize hi * 2 ^ d = e at *
  have w3' : bits .or .u64 (e : Int) ((a : Int) / 4294967296) = (q : Int) := by
    rw [← w3]; rfl
  have H1 := Lib.hid N1
  have H2 := Lib.hid N2
  have HK := hk
  clear N1 N2 w3 h hA hlo'
  have ha : a % 2 ^ 32 = a % 4294967296 := rfl
  rw [ha] at H1 H2
  clear ha
  by_cases hs : a % 4294967296 = 0
  · have hb : ((a : Int) % 4294967296 != 0) = false := by
      rw [bne_eq_false_iff_eq]; omega
    by_cases h0 : lo = 0
    · rw [decide_eq_true h0] at haz
      have fin := Lib.hid (H1.out hs h0)
      clear hs h0 H1 H2
      go_enter Tryz.func75, Tryz.ntmps75
      go_wp2_with fail
      refine (lz _).mono ?_
      rintro r w' ⟨rfl, rfl⟩
      go_wp2_with fail
      refine (hlow _ rfl).mono ?_
      rintro r w' ⟨rfl, rfl⟩
      go_wp2_with fail
      refine (haz _ rfl).mono ?_
      rintro r w' ⟨rfl, rfl⟩
      go_wp2_with fail
      rw [hk.out]
      refine (L1 _).mono ?_
      rintro r w' ⟨rfl, rfl⟩
      go_wp2
      go_ret
      rw [fin.out]
      exact ⟨rfl, rfl⟩
    · rw [decide_eq_false h0] at haz
      have fin := Lib.hid (H2.out (Or.inr h0))
      clear hs h0 H1 H2
      go_enter Tryz.func75, Tryz.ntmps75
      go_wp2_with fail
      refine (lz _).mono ?_
      rintro r w' ⟨rfl, rfl⟩
      go_wp2_with fail
      refine (hlow _ rfl).mono ?_
      rintro r w' ⟨rfl, rfl⟩
      go_wp2_with fail
      refine (haz _ rfl).mono ?_
      rintro r w' ⟨rfl, rfl⟩
      go_wp2_with fail
      rw [hk.out]
      refine (L2 _).mono ?_
      rintro r w' ⟨rfl, rfl⟩
      go_wp2
      go_ret
      rw [fin.out]
      exact ⟨rfl, rfl⟩
  · have hb : ((a : Int) % 4294967296 != 0) = true := by
      rw [bne_iff_ne]; omega
    have fin := Lib.hid (H2.out (Or.inl hs))
    clear hs H1 H2
    go_enter Tryz.func75, Tryz.ntmps75
    go_wp2_with fail
    refine (lz _).mono ?_
    rintro r w' ⟨rfl, rfl⟩
    go_wp2_with fail
    refine (hlow _ rfl).mono ?_
    rintro r w' ⟨rfl, rfl⟩
    go_wp2_with fail
    rw [hk.out]
    refine (L2 _).mono ?_
    rintro r w' ⟨rfl, rfl⟩
    go_wp2
    go_ret
    rw [fin.out]
    exact ⟨rfl, rfl⟩

set_option maxRecDepth 100000 in
theorem nearest_any (w : World) (A : Option Addr) (n c : Nat) (l : List Nat) (h : Raw w A n c l) (g : Bool) (hm : mayB g l = true) :
    Calls Tryz.prog 75 #[.slice A n c] w fun e w' => e = .returned (.float .f64 (Fl.ofN (Lm.val l))) ∧ w = w' := by
  have h8 := mayB_len hm
  have hl := h.1.1
  rcases Nat.lt_or_ge n 3 with h3 | h3
  · exact nearest_short w A n c l h.1 h3
  · refine nearest_long w A n c l h.1 h3 (by omega) h.2 ?_
    have := mayB_canon hm (by omega)
    rw [hl] at this
    exact this

/-- real.Of. -/
noncomputable def ofR (g : Bool) (l : List Nat) : Nat := if mayB g l then Ieee.double.word g (Fl.ofN (Lm.val l)) else 0
set_option maxRecDepth 100000 in
theorem neg_flt {b : Nat} (h : b < Fl.S) : Op.negFloat .f64 b = Ieee.double.word true b := by
  show b ^^^ 9223372036854775808 = _
  rw [Fl.xor_S (by omega)]
  unfold Fl.flip
  rw [Fl.pos_ng h, Fl.pos_rg h]
  rfl

set_option maxRecDepth 100000 in
theorem run_neg_flt {P : Program} {b : Nat} (h : b < Fl.S) (w : World) : (Op.unary .neg (.float .f64 b)).run P w = .ok (.float .f64 (Ieee.double.word true b)) w := by
  rw [← neg_flt h]
  rfl

set_option maxRecDepth 100000 in
set_option maxRecDepth 100000 in
set_option maxHeartbeats 1000000 in
theorem of_flt (w : World) (g : Bool) (A : Option Addr) (n c : Nat) (l : List Nat) (h : Raw w A n c l) :
    Calls Tryz.prog 51 #[.agg #[.bool g, .slice A n c]] w fun e w' => e = .returned (.int .u64 (ofR g l : Nat)) ∧ Below w.heap.size w w' := by
  have c2 := call_bits
  have hbx := Box.new w (.bool g) (.slice A n c)
  have hb0 := (Below.refl w.heap.size w).alloc (Nat.le_refl _) (.cells #[.bool g, .slice A n c] 24)
  have hR0 := h.below hb0
  generalize hW : w.alloc (.cells #[.bool g, .slice A n c] 24) = W at *
  have x0 := hbx.c0
  have x1 := hbx.c1
  cases hm : mayB g l with
  | false =>
    have fin : Hid (ofR g l = 0) := Lib.hid (by unfold ofR; rw [hm]; rfl)
    go_enter Tryz.func51, Tryz.ntmps51
    go_wp2_with fail
    refine (may_b W g A n c l hR0).mono ?_
    rintro e w1 ⟨rfl, hb1⟩
    go_wp2
    go_ret
    rw [fin.out]
    exact ⟨rfl, hb0.trans (hb1.mono hb0.size)⟩
  | true =>
    have hN := fun w => run_neg_flt (P := Tryz.prog) (Fl.ofN_lt (Lm.val l)) w
    cases g
    · have fin : Hid (ofR false l = Fl.ofN (Lm.val l)) := Lib.hid (by unfold ofR; rw [hm, if_pos rfl, Fl.word_false])
      go_enter Tryz.func51, Tryz.ntmps51
      go_wp2_with fail
      refine (may_b W false A n c l hR0).mono ?_
      rintro e w1 ⟨rfl, hb1⟩
      have y0 := (hbx.below' hb1).c0
      have y1 := (hbx.below' hb1).c1
      go_wp2_with fail
      refine (nearest_any w1 A n c l (hR0.below hb1) false hm).mono ?_
      rintro e w2 ⟨rfl, rfl⟩
      go_wp2
      go_ret
      rw [fin.out]
      exact ⟨rfl, hb0.trans (hb1.mono hb0.size)⟩
    · have fin : Hid (ofR true l = Ieee.double.word true (Fl.ofN (Lm.val l))) := Lib.hid (by unfold ofR; rw [hm, if_pos rfl])
      go_enter Tryz.func51, Tryz.ntmps51
      go_wp2_with fail
      refine (may_b W true A n c l hR0).mono ?_
      rintro e w1 ⟨rfl, hb1⟩
      have y0 := (hbx.below' hb1).c0
      have y1 := (hbx.below' hb1).c1
      go_wp2_with fail
      refine (nearest_any w1 A n c l (hR0.below hb1) true hm).mono ?_
      rintro e w2 ⟨rfl, rfl⟩
      go_wp2
      go_ret
      rw [fin.out]
      exact ⟨rfl, hb0.trans (hb1.mono hb0.size)⟩
end Go.Proofs.YtompimbeaeinbaaGreat
