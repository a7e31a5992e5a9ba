/-
  CONTRACTS OF THE LAWS' OWN FUNCTIONS ON INTEGERS (beehiveref1): May, at, size, fit, may.
  CONTRACTS OF THE LAWS' OWN FUNCTIONS ON INTEGERS (beehiveref1): may, plus, minus, Of.
  CONTRACTS OF THE LAWS' OWN FUNCTIONS ON INTEGERS (beehiveref1): Of, Neg, Add.
  CONTRACTS OF THE LAWS' OWN FUNCTIONS ON INTEGERS (beehiveref1): Add whole, Sub, Cmp.
  CONTRACTS OF THE LAWS' OWN FUNCTIONS ON INTEGERS (beehiveref1): Mul.
  CONTRACTS OF THE LAWS' OWN FUNCTIONS ON INTEGERS (beehiveref1): Small.
-/
import Derived.Test.YtmcfokeibecopaaK2
namespace Go.Proofs.Ytmcfokeibecopaa
open Go.RowKit

set_option maxRecDepth 100000 in
set_option maxHeartbeats 400000 in
theorem refMay_any (w : World) (g : Bool) (A : Option Addr) (n c : Nat) (l : List Nat) (h : Lim w A n c l) (_hn : c ≤ maxLen) :
    Calls Try.prog 61 #[.agg #[.bool g, .slice A n c]] w fun e w' => e = .returned (.bool (mayB g l)) ∧ w' = w.alloc (.cells #[.bool g, .slice A n c] 24) := by
  unfold maxLen at _hn
  have hnc := h.2.1
  have hll := Lib.hid h.1
  by_cases h0 : n = 0
  · subst h0
    have fin : Hid (mayB g l = !g) := by unfold mayB; rw [if_pos hll.out]; rfl
    cases g
    all_goals (
      go_enter Try.func61, Try.ntmps61
      go_wp2
      go_ret
      rw [fin.out]
      exact ⟨rfl, rfl⟩)
  · have hne : (((n : Nat) : Int) == 0) = false := by rw [beq_eq_false_iff_ne]; omega
    obtain ⟨b, o, rfl, hlt, hcell⟩ := h.2.2.2 (by omega)
    have hg := hcell (n - 1) (by omega)
    clear hcell
    by_cases h8 : n ≤ 8
    · by_cases hx : Lm.lg l (n - 1) = 0
      · have fin := Lib.hid (show mayB g l = false by unfold mayB; rw [hll.out, if_neg h0]; simp [hx])
        rw [hx] at hg
        have hX := Lib.hid hx
        clear hx
        go_enter Try.func61, Try.ntmps61
        go_wp2
        go_ret
        rw [fin.out]
        exact ⟨rfl, rfl⟩
      · have fin := Lib.hid (show mayB g l = true by unfold mayB; rw [hll.out, if_neg h0]; simp [hx, h8])
        have hx' : (((Lm.lg l (n - 1) : Nat) : Int) != 0) = true := by rw [bne_iff_ne]; omega
        go_enter Try.func61, Try.ntmps61
        go_wp2
        go_ret
        rw [fin.out]
        exact ⟨rfl, rfl⟩
    · have fin := Lib.hid (show mayB g l = false by unfold mayB; rw [hll.out, if_neg h0]; simp [h8])
      go_enter Try.func61, Try.ntmps61
      go_wp2
      go_ret
      rw [fin.out]
      exact ⟨rfl, rfl⟩

set_option maxRecDepth 100000 in
theorem refMay_b (w : World) (g : Bool) (A : Option Addr) (n c : Nat) (l : List Nat) (h : Raw w A n c l) :
    Calls Try.prog 61 #[.agg #[.bool g, .slice A n c]] w fun e w' => e = .returned (.bool (mayB g l)) ∧ Below w.heap.size w w' :=
  (refMay_any w g A n c l h.1 h.2).mono fun _ _ ⟨he, hw⟩ => ⟨he, by rw [hw]; exact (Below.refl _ _).alloc (Nat.le_refl _) _⟩

set_option maxRecDepth 100000 in
set_option maxHeartbeats 800000 in
theorem size_any (w : World) (A B : Option Addr) (n c m d : Nat) (l k : List Nat) (h : Lim w A n c l) (hn : c ≤ maxLen) (h' : Lim w B m d k) (_hm : d ≤ maxLen) (hcl : Lm.Canon l) (hck : Lm.Canon k) :
    Calls Try.prog 82 #[.slice A n c, .slice B m d] w fun e w' => e = .returned (.int .i64 (Lm.cmpN (Lm.val l) (Lm.val k))) ∧ ∃ q, w' = w.drewN q := by
  unfold maxLen at hn _hm
  have hnc := h.2.1
  have hmd := h'.2.1
  have hll := Lib.hid h.1
  have hkk := Lib.hid h'.1
  by_cases hnm : n = m
  · subst hnm
    go_enter Try.func82, Try.ntmps82
    go_wp2
    go_loopw [5] (fun i w' => ∃ j : Nat, j ≤ n ∧ i = .int .i64 ((j : Int) - 1) ∧ (∃ q, w' = w.drewN q) ∧ Hid (∀ t, j ≤ t → t < n → Lm.lg l t = Lm.lg k t)) (fun i _ => (intOf i + 1).toNat)
    case atStart => exact ⟨n, Nat.le_refl _, rfl, ⟨0, rfl⟩, fun t h1 h2 => by omega⟩
    case round =>
      obtain ⟨j, hj, rfl, ⟨q, rfl⟩, hz⟩ := hrel
      by_cases h0 : j = 0
      · subst h0
        have e := Lm.eq_of_lg (hll.out.trans hkk.out.symm) (fun t ht => hz.out t (by omega) (by rw [← hll.out]; exact ht))
        have fin := Lib.hid (show Lm.cmpN (Lm.val l) (Lm.val k) = 0 by rw [e]; unfold Lm.cmpN; simp)
        clear e
        go_wp2
        go_ret
        rw [fin.out]
        exact ⟨rfl, q, rfl⟩
      · obtain ⟨b, o, rfl, hlt, hcell⟩ := h.2.2.2 (by omega)
        obtain ⟨b', o', rfl, hlt', hcell'⟩ := h'.2.2.2 (by omega)
        have hg := hcell (j - 1) (by omega)
        have hg' := hcell' (j - 1) (by omega)
        have hpos : (0 : Int) ≤ (j : Int) - 1 := by omega
        have hpos1 : (1 : Int) ≤ (j : Int) := by omega
        have hpos2 : (j : Int) - 1 < (n : Int) := by omega
        clear hcell hcell'
        rcases Nat.lt_trichotomy (Lm.lg l (j - 1)) (Lm.lg k (j - 1)) with hx | hx | hx
        · have hlt1 : decide (Lm.lg l (j - 1) < Lm.lg k (j - 1)) = true := by rw [decide_eq_true_iff]; exact hx
          have fin := Lib.hid (show Lm.cmpN (Lm.val l) (Lm.val k) = -1 by rw [cmp_top h.2.2.1 h'.2.2.1 (j - 1) (hll.out.trans hkk.out.symm) (by have := hll.out; omega) (fun t h1 h2 => hz.out t (by omega) (by have := hll.out; omega)) (by omega)]; unfold Lm.cmpN; rw [if_pos hx])
          go_wp2
          go_quiet (fail)
          go_wp2
          go_ret
          rw [fin.out]
          exact ⟨rfl, _, by rw [World.drewN_drewN]⟩
        · have hne1 : decide (Lm.lg l (j - 1) < Lm.lg k (j - 1)) = false := by rw [decide_eq_false_iff_not]; omega
          have hne2 : decide (Lm.lg k (j - 1) < Lm.lg l (j - 1)) = false := by rw [decide_eq_false_iff_not]; omega
          have hX := Lib.hid hx
          clear hx
          go_wp2
          go_quiet (fail)
          go_wp2
          go_quiet (fail)
          go_wp2
          go_roundw
          case rel => exact ⟨j - 1, by omega, by go_num, ⟨_, rfl⟩, fun t h1 h2 => by
            by_cases e : t = j - 1
            · rw [e]; exact hX.out
            · exact hz.out t (by omega) h2⟩
          case measure => simp [intOf]; omega
        · have hne1 : decide (Lm.lg l (j - 1) < Lm.lg k (j - 1)) = false := by rw [decide_eq_false_iff_not]; omega
          have hne2 : decide (Lm.lg k (j - 1) < Lm.lg l (j - 1)) = true := by rw [decide_eq_true_iff]; omega
          have fin := Lib.hid (show Lm.cmpN (Lm.val l) (Lm.val k) = 1 by rw [cmp_top h.2.2.1 h'.2.2.1 (j - 1) (hll.out.trans hkk.out.symm) (by have := hll.out; omega) (fun t h1 h2 => hz.out t (by omega) (by have := hll.out; omega)) (by omega)]; unfold Lm.cmpN; rw [if_neg (by omega), if_pos hx])
          go_wp2
          go_quiet (fail)
          go_wp2
          go_quiet (fail)
          go_wp2
          go_ret
          rw [fin.out]
          exact ⟨rfl, _, by rw [World.drewN_drewN, World.drewN_drewN]⟩
  · have hne : (((n : Nat) : Int) != ((m : Nat) : Int)) = true := by rw [bne_iff_ne]; omega
    have fin := Lib.hid (cmp_len h.2.2.1 h'.2.2.1 hcl hck (by rw [hll.out, hkk.out]; exact hnm))
    rcases Nat.lt_or_ge n m with hx | hx
    · have f2 := Lib.hid (show Lm.cmpN l.length k.length = -1 by rw [hll.out, hkk.out]; unfold Lm.cmpN; rw [if_pos hx])
      have hd : decide (n < m) = true := decide_eq_true hx
      go_enter Try.func82, Try.ntmps82
      go_wp2
      go_ret
      rw [fin.out, f2.out]
      exact ⟨rfl, 0, rfl⟩
    · have f2 := Lib.hid (show Lm.cmpN l.length k.length = 1 by rw [hll.out, hkk.out]; unfold Lm.cmpN; rw [if_neg (by omega), if_pos (by omega)])
      have hd : decide (n < m) = false := decide_eq_false (by omega)
      go_enter Try.func82, Try.ntmps82
      go_wp2
      go_ret
      rw [fin.out, f2.out]
      exact ⟨rfl, 0, rfl⟩

set_option maxRecDepth 100000 in
set_option maxHeartbeats 1000000 in
theorem fit_any (w : World) (g : Bool) (A : Option Addr) (n c : Nat) (l : List Nat) (h : Lim w A n c l) (hn : n ≤ 1000) (hc : c ≤ maxLen) :
    Calls Try.prog 93 #[.bool g, .slice A n c] w (OnePost w (sgn g (Lm.val l))) := by
  have hnc := h.2.1
  have hsm := h.2.2.1
  have hll := Lib.hid h.1
  have hb0 := (Below.refl w.heap.size w).alloc (Nat.le_refl _) (.cells #[.bool false, .slice none 0 0] 24)
  have hbx := Box.new w (.bool false) (.slice none 0 0)
  have hL := h.alloc (.cells #[.bool false, .slice none 0 0] 24)
  have hmx : c ≤ 9223372036854775807 := by unfold maxLen at hc; exact hc
  go_enter Try.func93, Try.ntmps93
  go_wp2
  generalize w.alloc (.cells #[.bool false, .slice none 0 0] 24) = W at *
  go_loop [5] (fun i => ∃ k : Nat, k ≤ n ∧ i = .int .i64 k ∧ Hid (∀ j, k ≤ j → j < l.length → l.getD j 0 = 0)) (fun i => (intOf i).toNat)
  case atStart => exact ⟨n, Nat.le_refl _, rfl, fun j h1 h2 => by have := hll.out; omega⟩
  case round =>
    obtain ⟨k, hk, rfl, hz⟩ := hrel
    by_cases h0 : k = 0
    · subst h0
      have fin := Lm.digits_prefix hsm 0 (by omega) hz.out (.inl rfl)
      have hv : Lm.val l = 0 := Lm.digits_eq_nil.1 (by rw [fin]; simp)
      have hs0 := Lib.hid (show sgn g (Lm.val l) = 0 by rw [hv]; cases g <;> rfl)
      clear fin hv
      have x0 := hbx.c0
      have x1 := hbx.c1
      have f0 := hbx.f0
      have f1 := hbx.f1
      go_wp2
      obtain ⟨hB, hNV, hbl⟩ := close_num (s := false) (A := none) (n := 0) (c := 0) (z := 0) (base := w.heap.size) (base' := w.heap.size) hbx (Nat.le_refl _) hb0 (Lib.hid rfl) (by rw [show (0 : Int).natAbs = 0 from rfl, Lm.digits_zero]; exact Own.nil _ _) (Nat.le_refl _)
      generalize (W.setCell ⟨w.heap.size, 0, none⟩ (.bool false)).setCell ⟨w.heap.size, 1, none⟩ (.slice none 0 0) = W2 at *
      have hy0 := hB.c0
      have hy1 := hB.c1
      refine bodyPost_ret (v := .agg #[.bool false, .slice none 0 0]) (by simp [results, Try.results93, go_sem, hy0, hy1]) rfl ?_
      rw [hs0.out]
      exact ⟨_, rfl, hNV, hbl⟩
    · obtain ⟨b, o, rfl, hlt, hcell⟩ := hL.2.2.2 (by omega)
      have hg := hcell (k - 1) (by omega)
      have hpos : (0 : Int) < (k : Int) := by omega
      have hh := Lib.hid hcell
      clear hcell
      by_cases hx : Lm.lg l (k - 1) = 0
      · rw [hx] at hg
        have hX := Lib.hid hx
        clear hx
        go_wp2
        go_round
        case rel => exact ⟨k - 1, by omega, by go_num, fun j h1 h2 => by
          by_cases e : j = k - 1
          · rw [e]; exact hX.out
          · exact hz.out j (by omega) h2⟩
        case measure => simp [intOf]; omega
      · have hx' : (((Lm.lg l (k - 1) : Nat) : Int) == 0) = false := by rw [beq_eq_false_iff_ne]; omega
        have hk0 : (((k : Nat) : Int) == 0) = false := by rw [beq_eq_false_iff_ne]; omega
        have fin := Lib.hid (Lm.digits_prefix hsm k (by rw [hll.out]; exact hk) hz.out (.inr hx))
        obtain ⟨A', c', w1, hrun, hO, hB0⟩ := append_lim W W.heap.size none 0 0 [] (Own.nil _ _) (some ⟨b, o, none⟩) k c (l.take k) (hL.take k hk) (by omega) (Nat.le_refl _) 22
        rw [Nat.zero_add, List.nil_append] at hO
        rw [Nat.zero_add] at hrun
        have hR := Lib.hid hrun
        clear hrun
        have r := hbx.below' hB0
        have x0 := r.c0
        have x1 := r.c1
        have f0 := r.f0
        have f1 := r.f1
        go_wp2_with (at_builtin; refine wpList_append_run rfl _ _ _ rfl _ _ _ rfl rfl hR.out ?_)
        have hsg : Hid (g = decide (sgn g (Lm.val l) < 0)) := by
          refine Lib.hid ?_
          have hne : Lm.val l ≠ 0 := fun e => by
            have := fin.out
            rw [e, Lm.digits_zero] at this
            have h2 := congrArg List.length this
            rw [List.length_take, hll.out] at h2
            simp at h2
            omega
          cases g <;> simp [sgn] <;> omega
        have hO2 : Own w1 W.heap.size A' k c' (Lm.digits (sgn g (Lm.val l)).natAbs) := by rw [natAbs_sgn, fin.out]; exact hO
        obtain ⟨hB, hNV, hbl⟩ := close_num (base' := w.heap.size) r (Nat.le_refl _) (hb0.trans (hB0.mono hb0.size)) hsg hO2 hb0.size
        generalize (w1.setCell ⟨w.heap.size, 0, none⟩ (.bool g)).setCell ⟨w.heap.size, 1, none⟩ (.slice A' k c') = W2 at *
        have hy0 := hB.c0
        have hy1 := hB.c1
        exact bodyPost_ret (v := .agg #[.bool g, .slice A' k c']) (by simp [results, Try.results93, go_sem, hy0, hy1]) rfl ⟨_, rfl, hNV, hbl⟩

end Go.Proofs.Ytmcfokeibecopaa

namespace Go.Proofs.Ytmcfokeibecopaa
open Go.RowKit

set_option maxRecDepth 100000 in
theorem val_snoc {t : List Nat} {j : Nat} (hl : t.length = j) (x : Nat) : Lm.val (t ++ [x]) = Lm.val t + 4294967296 ^ j * x := by
  rw [Lm.val_append, hl]; simp [Lm.val]
set_option maxRecDepth 100000 in
theorem add_snoc {t l k : List Nat} {j c : Nat} (hl : t.length = j) (h : Lm.val t + 4294967296 ^ j * c = Lm.val (l.take j) + Lm.val (k.take j)) :
    Lm.val (t ++ [(Lm.lg l j + Lm.lg k j + c) % 4294967296]) + 4294967296 ^ (j + 1) * ((Lm.lg l j + Lm.lg k j + c) / 4294967296) = Lm.val (l.take (j + 1)) + Lm.val (k.take (j + 1)) := by
  rw [val_snoc hl, Lm.val_take_succ l, Lm.val_take_succ k, Nat.pow_succ, Nat.mul_assoc]
  have e : (Lm.lg l j + Lm.lg k j + c) % 4294967296 + 4294967296 * ((Lm.lg l j + Lm.lg k j + c) / 4294967296) = Lm.lg l j + Lm.lg k j + c := Nat.mod_add_div _ _
  have e2 : 4294967296 ^ j * ((Lm.lg l j + Lm.lg k j + c) % 4294967296) + 4294967296 ^ j * (4294967296 * ((Lm.lg l j + Lm.lg k j + c) / 4294967296)) = 4294967296 ^ j * Lm.lg l j + 4294967296 ^ j * Lm.lg k j + 4294967296 ^ j * c := by
    rw [← Nat.mul_add, e, Nat.mul_add, Nat.mul_add]
  generalize 4294967296 ^ j * ((Lm.lg l j + Lm.lg k j + c) % 4294967296) = u at *
  generalize 4294967296 ^ j * (4294967296 * ((Lm.lg l j + Lm.lg k j + c) / 4294967296)) = v at *
  omega
set_option maxRecDepth 100000 in
theorem sub_snoc {t l k : List Nat} {j b x b' : Nat} (hl : t.length = j) (h : Lm.val (l.take j) + 4294967296 ^ j * b = Lm.val t + Lm.val (k.take j)) (hx : Lm.lg l j + 4294967296 * b' = x + Lm.lg k j + b) :
    Lm.val (l.take (j + 1)) + 4294967296 ^ (j + 1) * b' = Lm.val (t ++ [x]) + Lm.val (k.take (j + 1)) := by
  rw [val_snoc hl, Lm.val_take_succ l, Lm.val_take_succ k, Nat.pow_succ, Nat.mul_assoc]
  have e2 : 4294967296 ^ j * Lm.lg l j + 4294967296 ^ j * (4294967296 * b') = 4294967296 ^ j * x + 4294967296 ^ j * Lm.lg k j + 4294967296 ^ j * b := by
    rw [← Nat.mul_add, hx, Nat.mul_add, Nat.mul_add]
  generalize 4294967296 ^ j * (4294967296 * b') = v at *
  omega
set_option maxRecDepth 100000 in
theorem add_whole {t l k : List Nat} {N x : Nat} (hs : Lm.Small l) (hs' : Lm.Small k) (hl : l.length ≤ N) (hk : k.length ≤ N) (h : Lm.val t + 4294967296 ^ (N + 1) * x = Lm.val (l.take (N + 1)) + Lm.val (k.take (N + 1))) : Lm.val t = Lm.val l + Lm.val k := by
  rw [List.take_of_length_le (by omega), List.take_of_length_le (by omega)] at h
  have h1 : Lm.val l < 4294967296 ^ N := Nat.lt_of_lt_of_le (Lm.val_lt hs) (Nat.pow_le_pow_right (by decide) hl)
  have h2 : Lm.val k < 4294967296 ^ N := Nat.lt_of_lt_of_le (Lm.val_lt hs') (Nat.pow_le_pow_right (by decide) hk)
  have h3 : 4294967296 ^ (N + 1) = 4294967296 ^ N * 4294967296 := Nat.pow_succ ..
  generalize 4294967296 ^ (N + 1) = Q at *
  generalize 4294967296 ^ N = P at *
  generalize Lm.val l = u at *
  generalize Lm.val k = v at *
  generalize Lm.val t = y at *
  rcases Nat.eq_zero_or_pos x with h0 | h0
  · subst h0
    rw [Nat.mul_zero] at h
    omega
  · have h4 : Q * 1 ≤ Q * x := Nat.mul_le_mul_left _ h0
    generalize Q * x = q at *
    omega
set_option maxRecDepth 100000 in
theorem sub_whole {t l k : List Nat} {b : Nat} (hs : Lm.Small t) (ht : t.length = l.length) (hk : k.length ≤ l.length) (hle : Lm.val k ≤ Lm.val l)
    (h : Lm.val (l.take l.length) + 4294967296 ^ l.length * b = Lm.val t + Lm.val (k.take l.length)) : Lm.val t = Lm.val l - Lm.val k := by
  refine Lm.sub_end hs ht hk hle (b := b) ?_
  rw [List.take_of_length_le (l := t) (by omega)]
  exact h
set_option maxRecDepth 100000 in
theorem sub_wrap2 (a b x : Nat) (ha : a ≤ 4294967295) (hb : b ≤ 4294967295) (hx : x ≤ 1) :
    ∃ y b' : Nat, IntKind.u64.wrap (IntKind.u64.wrap ((a : Int) - b) - x) % 4294967296 = (y : Int) ∧ IntKind.u64.wrap (IntKind.u64.wrap ((a : Int) - b) - x) / 9223372036854775808 = (b' : Int) ∧ b' ≤ 1 ∧ y < 4294967296 ∧ a + 4294967296 * b' = y + b + x := by
  rw [IntKind.wrap_u64, IntKind.wrap_u64]
  refine ⟨((((a : Int) - b) % 18446744073709551616 - x) % 18446744073709551616 % 4294967296).toNat, ((((a : Int) - b) % 18446744073709551616 - x) % 18446744073709551616 / 9223372036854775808).toNat, ?_, ?_, ?_, ?_, ?_⟩ <;> omega
set_option maxRecDepth 100000 in
theorem arr_one (x : Nat) : (#[Value.int .u32 (x : Int)] : Array Value) = arr [x] := rfl
set_option maxRecDepth 100000 in
theorem one_small {x : Nat} (h : x < 4294967296) : Lm.Small [x] := by intro y hy; simp at hy; omega

set_option maxRecDepth 100000 in
/-- append(row, limb). -/
theorem append_one (w : World) (base : Nat) (A0 : Option Addr) (n0 c0 : Nat) (l0 : List Nat) (hown : Own w base A0 n0 c0 l0) (x : Nat) (hx : x < 4294967296) (hn : n0 + 1 ≤ 100000) (hbase : base ≤ w.heap.size) (ty : TypeId) :
    ∃ A' c' w', (Builtin.append_ #[22, 22] ty #[.slice A0 n0 c0, .slice (some ⟨w.heap.size, 0, none⟩) 1 1]).run Try.prog (w.alloc (.cells #[.int .u32 (x : Int)] 60)) = .ok (.slice A' (n0 + 1) c') w' ∧ Own w' base A' (n0 + 1) c' (l0 ++ [x]) ∧ Below base w w' := by
  have hA := (Below.refl w.heap.size w).alloc (Nat.le_refl _) (.cells #[.int .u32 (x : Int)] 60)
  obtain ⟨A', c', w', h1, h2, h3⟩ := append_lim (w.alloc (.cells #[.int .u32 (x : Int)] 60)) base A0 n0 c0 l0 (hown.below hA) (some ⟨w.heap.size, 0, none⟩) 1 1 [x] (Lim.new w [x] (one_small hx)) hn (Nat.le_trans hbase hA.size) ty
  exact ⟨A', c', w', h1, h2, (hA.mono hbase).trans h3⟩

end Go.Proofs.Ytmcfokeibecopaa

namespace Go.Proofs.Ytmcfokeibecopaa
open Go.RowKit

set_option maxRecDepth 100000 in
set_option maxHeartbeats 1000000 in
theorem refOf_neg (w : World) (z : Int) (h1 : -9223372036854775808 ≤ z) (h2 : z < 0) :
    Calls Try.prog 81 #[.int .i64 z] w (OnePost w z) := by
  obtain ⟨t, ht, htl, hts, htv⟩ := of_limbs_neg z h1 h2
  have hT := Lib.hid ht
  have hL := Lib.hid htl
  have hV := Lib.hid htv
  clear ht htl htv
  go_enter Try.func81, Try.ntmps81
  go_wp2_with fail
  rw [hT.out]
  have hb0 := ((Below.refl w.heap.size w).alloc (Nat.le_refl _) (.cells #[.bool false, .slice none 0 0] 24)).alloc (by simp) (.cells (arr t) 60)
  have hxr := (Box.new w (.bool false) (.slice none 0 0)).alloc (.cells (arr t) 60)
  have hown : Own ((w.alloc (.cells #[.bool false, .slice none 0 0] 24)).alloc (.cells (arr t) 60)) w.heap.size (some ⟨w.heap.size + 1, 0, none⟩) 2 2 t := by
    have := Own.new (w.alloc (.cells #[.bool false, .slice none 0 0] 24)) w.heap.size t hts (by simp) (by rw [hL.out]; decide)
    rw [hL.out] at this
    simpa using this
  generalize (w.alloc (.cells #[.bool false, .slice none 0 0] 24)).alloc (.cells (arr t) 60) = W at *
  refine (fit_any W true _ 2 2 t hown.lim (by decide) (by decide)).mono ?_
  have hzz : sgn true (Lm.val t) = z := by rw [hV.out]; unfold sgn; simp; omega
  rw [hzz]
  clear hzz
  rintro e w1 ⟨_, rfl, ⟨s1, A1, n1, c1, rfl, hs1, ho1⟩, hb⟩
  have r := hxr.below' hb
  have x0 := r.c0
  have x1 := r.c1
  have f0 := r.f0
  have f1 := r.f1
  go_wp2
  obtain ⟨hB, hNV, hbl⟩ := close_num (base' := w.heap.size) r (Nat.le_refl _) (hb0.trans (hb.mono hb0.size)) hs1 ho1 hb0.size
  generalize (w1.setCell ⟨w.heap.size, 0, none⟩ (.bool s1)).setCell ⟨w.heap.size, 1, none⟩ (.slice A1 n1 c1) = W2 at *
  have hy0 := hB.c0
  have hy1 := hB.c1
  exact bodyPost_ret (v := .agg #[.bool s1, .slice A1 n1 c1]) (by simp [results, Try.results81, go_sem, hy0, hy1]) rfl ⟨_, rfl, hNV, hbl⟩

set_option maxRecDepth 100000 in
set_option maxHeartbeats 1000000 in
theorem refOf_pos (w : World) (z : Int) (h1 : 0 ≤ z) (h2 : z ≤ 9223372036854775807) :
    Calls Try.prog 81 #[.int .i64 z] w (OnePost w z) := by
  obtain ⟨t, ht, htl, hts, htv⟩ := of_limbs_pos z h1 h2
  have hT := Lib.hid ht
  have hL := Lib.hid htl
  have hV := Lib.hid htv
  clear ht htl htv
  have hz0 : decide (z < 0) = false := by rw [decide_eq_false_iff_not]; omega
  go_enter Try.func81, Try.ntmps81
  go_wp2_with fail
  rw [hT.out]
  have hb0 := ((Below.refl w.heap.size w).alloc (Nat.le_refl _) (.cells #[.bool false, .slice none 0 0] 24)).alloc (by simp) (.cells (arr t) 60)
  have hxr := (Box.new w (.bool false) (.slice none 0 0)).alloc (.cells (arr t) 60)
  have hown : Own ((w.alloc (.cells #[.bool false, .slice none 0 0] 24)).alloc (.cells (arr t) 60)) w.heap.size (some ⟨w.heap.size + 1, 0, none⟩) 2 2 t := by
    have := Own.new (w.alloc (.cells #[.bool false, .slice none 0 0] 24)) w.heap.size t hts (by simp) (by rw [hL.out]; decide)
    rw [hL.out] at this
    simpa using this
  generalize (w.alloc (.cells #[.bool false, .slice none 0 0] 24)).alloc (.cells (arr t) 60) = W at *
  refine (fit_any W false _ 2 2 t hown.lim (by decide) (by decide)).mono ?_
  have hzz : sgn false (Lm.val t) = z := by rw [hV.out]; unfold sgn; simp; omega
  rw [hzz]
  clear hzz
  rintro e w1 ⟨_, rfl, ⟨s1, A1, n1, c1, rfl, hs1, ho1⟩, hb⟩
  have r := hxr.below' hb
  have x0 := r.c0
  have x1 := r.c1
  have f0 := r.f0
  have f1 := r.f1
  go_wp2
  obtain ⟨hB, hNV, hbl⟩ := close_num (base' := w.heap.size) r (Nat.le_refl _) (hb0.trans (hb.mono hb0.size)) hs1 ho1 hb0.size
  generalize (w1.setCell ⟨w.heap.size, 0, none⟩ (.bool s1)).setCell ⟨w.heap.size, 1, none⟩ (.slice A1 n1 c1) = W2 at *
  have hy0 := hB.c0
  have hy1 := hB.c1
  exact bodyPost_ret (v := .agg #[.bool s1, .slice A1 n1 c1]) (by simp [results, Try.results81, go_sem, hy0, hy1]) rfl ⟨_, rfl, hNV, hbl⟩

set_option maxRecDepth 100000 in
theorem refOf_any (w : World) (z : Int) (h1 : -9223372036854775808 ≤ z) (h2 : z ≤ 9223372036854775807) : Calls Try.prog 81 #[.int .i64 z] w (OnePost w z) := by
  rcases Int.lt_or_le z 0 with h | h
  · exact refOf_neg w z h1 h
  · exact refOf_pos w z h h2

set_option maxRecDepth 100000 in
theorem fit_row (w : World) (base : Nat) (g : Bool) (A : Option Addr) (n c : Nat) (t : List Nat) (v : Nat) (h : Own w base A n c t) (hn : n ≤ 1000) (hv : Lm.val t = v) :
    Calls Try.prog 93 #[.bool g, .slice A n c] w (OnePost w (sgn g v)) := by
  rw [← hv]
  exact fit_any w g A n c t h.lim hn h.cap.2

end Go.Proofs.Ytmcfokeibecopaa

namespace Go.Proofs.Ytmcfokeibecopaa
open Go.RowKit

set_option maxRecDepth 100000 in
set_option maxHeartbeats 1000000 in
theorem refCmp_no1 (w : World) (g g' : Bool) (A B : Option Addr) (n c m d : Nat) (l k : List Nat) (h : Raw w A n c l) (h' : Raw w B m d k) (hm : mayB g l = false) : Calls Try.prog 64 #[.agg #[.bool g, .slice A n c], .agg #[.bool g', .slice B m d]] w (IntPost w 0) := by
  go_enter Try.func64, Try.ntmps64
  go_wp2_with fail
  have hb0 := (((Below.refl w.heap.size w).alloc (Nat.le_refl _) (.cells #[.bool g, .slice A n c] 24)).alloc (by simp) (.cells #[.bool g', .slice B m d] 24))
  have hxa := ((Box.new w (.bool g) (.slice A n c)).alloc (.cells #[.bool g', .slice B m d] 24))
  have hxb := (Box.new (w.alloc (.cells #[.bool g, .slice A n c] 24)) (.bool g') (.slice B m d))
  simp only [World.size_alloc] at hxb
  have hAA := h.below hb0
  have hBB := h'.below hb0
  generalize ((w.alloc (.cells #[.bool g, .slice A n c] 24)).alloc (.cells #[.bool g', .slice B m d] 24)) = W at *
  have x1 := hxa.c0
  have x2 := hxa.c1
  refine (refMay_b W g A n c l hAA).mono ?_
  rintro e w1 ⟨rfl, hb1⟩
  have ya := hxa.below' hb1
  have yb := hxb.below' hb1
  skip
  replace hAA := hAA.below hb1
  replace hBB := hBB.below hb1
  replace hb0 := hb0.trans (hb1.mono hb0.size)
  clear hxa hxb  x1 x2 hb1
  have x1 := ya.c0
  have x2 := ya.c1
  have x3 := yb.c0
  have x4 := yb.c1
  go_wp2
  go_ret
  exact ⟨rfl, hb0⟩
set_option maxRecDepth 100000 in
set_option maxHeartbeats 1000000 in
theorem refCmp_no2 (w : World) (g g' : Bool) (A B : Option Addr) (n c m d : Nat) (l k : List Nat) (h : Raw w A n c l) (h' : Raw w B m d k) (hm : mayB g l = true) (hm' : mayB g' k = false) : Calls Try.prog 64 #[.agg #[.bool g, .slice A n c], .agg #[.bool g', .slice B m d]] w (IntPost w 0) := by
  go_enter Try.func64, Try.ntmps64
  go_wp2_with fail
  have hb0 := (((Below.refl w.heap.size w).alloc (Nat.le_refl _) (.cells #[.bool g, .slice A n c] 24)).alloc (by simp) (.cells #[.bool g', .slice B m d] 24))
  have hxa := ((Box.new w (.bool g) (.slice A n c)).alloc (.cells #[.bool g', .slice B m d] 24))
  have hxb := (Box.new (w.alloc (.cells #[.bool g, .slice A n c] 24)) (.bool g') (.slice B m d))
  simp only [World.size_alloc] at hxb
  have hAA := h.below hb0
  have hBB := h'.below hb0
  generalize ((w.alloc (.cells #[.bool g, .slice A n c] 24)).alloc (.cells #[.bool g', .slice B m d] 24)) = W at *
  have x1 := hxa.c0
  have x2 := hxa.c1
  refine (refMay_b W g A n c l hAA).mono ?_
  rintro e w1 ⟨rfl, hb1⟩
  have ya := hxa.below' hb1
  have yb := hxb.below' hb1
  skip
  replace hAA := hAA.below hb1
  replace hBB := hBB.below hb1
  replace hb0 := hb0.trans (hb1.mono hb0.size)
  clear hxa hxb  x1 x2 hb1
  have x1 := ya.c0
  have x2 := ya.c1
  have x3 := yb.c0
  have x4 := yb.c1
  go_wp2_with fail
  refine (refMay_b w1 g' B m d k hBB).mono ?_
  rintro e w2 ⟨rfl, hb2⟩
  have za := ya.below' hb2
  have zb := yb.below' hb2
  skip
  replace hAA := hAA.below hb2
  replace hBB := hBB.below hb2
  replace hb0 := hb0.trans (hb2.mono hb0.size)
  clear ya yb  x1 x2 x3 x4 hb2
  have x1 := za.c0
  have x2 := za.c1
  have x3 := zb.c0
  have x4 := zb.c1
  go_wp2
  go_ret
  exact ⟨rfl, hb0⟩
set_option maxRecDepth 100000 in
set_option maxHeartbeats 2000000 in
theorem refCmp_yes (w : World) (g g' : Bool) (A B : Option Addr) (n c m d : Nat) (l k : List Nat) (h : Raw w A n c l) (h' : Raw w B m d k) (hm : mayB g l = true) (hm' : mayB g' k = true) :
    Calls Try.prog 64 #[.agg #[.bool g, .slice A n c], .agg #[.bool g', .slice B m d]] w (IntPost w (cmpZ (sgn g (Lm.val l)) (sgn g' (Lm.val k)))) := by
  have hsl := h.1.2.2.1
  have hsk := h'.1.2.2.1
  go_enter Try.func64, Try.ntmps64
  go_wp2_with fail
  have hb0 := (((Below.refl w.heap.size w).alloc (Nat.le_refl _) (.cells #[.bool g, .slice A n c] 24)).alloc (by simp) (.cells #[.bool g', .slice B m d] 24))
  have hxa := ((Box.new w (.bool g) (.slice A n c)).alloc (.cells #[.bool g', .slice B m d] 24))
  have hxb := (Box.new (w.alloc (.cells #[.bool g, .slice A n c] 24)) (.bool g') (.slice B m d))
  simp only [World.size_alloc] at hxb
  have hAA := h.below hb0
  have hBB := h'.below hb0
  generalize ((w.alloc (.cells #[.bool g, .slice A n c] 24)).alloc (.cells #[.bool g', .slice B m d] 24)) = W at *
  have x1 := hxa.c0
  have x2 := hxa.c1
  refine (refMay_b W g A n c l hAA).mono ?_
  rintro e w1 ⟨rfl, hb1⟩
  have ya := hxa.below' hb1
  have yb := hxb.below' hb1
  skip
  replace hAA := hAA.below hb1
  replace hBB := hBB.below hb1
  replace hb0 := hb0.trans (hb1.mono hb0.size)
  clear hxa hxb  x1 x2 hb1
  have x1 := ya.c0
  have x2 := ya.c1
  have x3 := yb.c0
  have x4 := yb.c1
  go_wp2_with fail
  refine (refMay_b w1 g' B m d k hBB).mono ?_
  rintro e w2 ⟨rfl, hb2⟩
  have za := ya.below' hb2
  have zb := yb.below' hb2
  skip
  replace hAA := hAA.below hb2
  replace hBB := hBB.below hb2
  replace hb0 := hb0.trans (hb2.mono hb0.size)
  clear ya yb  x1 x2 x3 x4 hb2
  have x1 := za.c0
  have x2 := za.c1
  have x3 := zb.c0
  have x4 := zb.c1
  cases g with
  | true =>
    cases g' with
    | true =>
      have fin := Lib.hid (show Lm.cmpN (Lm.val k) (Lm.val l) = cmpZ (sgn true (Lm.val l)) (sgn true (Lm.val k)) by simp [Lm.cmpN, cmpZ, sgn])
      go_wp2_with fail
      refine (size_any w2 B A m d n c k l hBB.1 hBB.2 hAA.1 hAA.2 (mayB_canon hm') (mayB_canon hm)).mono ?_
      rintro e w' ⟨rfl, q, rfl⟩
      go_wp2
      go_ret
      rw [← fin.out]
      exact ⟨rfl, hb0.drewN' q⟩
    | false =>
      have hp := val_pos_of_neg hm hsl
      have fin := Lib.hid (show cmpZ (sgn true (Lm.val l)) (sgn false (Lm.val k)) = -1 by have e1 : sgn true (Lm.val l) = -(Lm.val l : Int) := rfl; have e2 : sgn false (Lm.val k) = (Lm.val k : Int) := rfl; rw [e1, e2]; unfold cmpZ; rw [if_pos (by omega)])
      go_wp2
      go_ret
      rw [fin.out]
      exact ⟨rfl, hb0⟩
  | false =>
    cases g' with
    | true =>
      have hp := val_pos_of_neg hm' hsk
      have fin := Lib.hid (show cmpZ (sgn false (Lm.val l)) (sgn true (Lm.val k)) = 1 by have e1 : sgn false (Lm.val l) = (Lm.val l : Int) := rfl; have e2 : sgn true (Lm.val k) = -(Lm.val k : Int) := rfl; rw [e1, e2]; unfold cmpZ; rw [if_neg (by omega), if_pos (by omega)])
      go_wp2
      go_ret
      rw [fin.out]
      exact ⟨rfl, hb0⟩
    | false =>
      have fin := Lib.hid (show Lm.cmpN (Lm.val l) (Lm.val k) = cmpZ (sgn false (Lm.val l)) (sgn false (Lm.val k)) by simp [Lm.cmpN, cmpZ, sgn])
      go_wp2_with fail
      refine (size_any w2 A B n c m d l k hAA.1 hAA.2 hBB.1 hBB.2 (mayB_canon hm) (mayB_canon hm')).mono ?_
      rintro e w' ⟨rfl, q, rfl⟩
      go_wp2
      go_ret
      rw [← fin.out]
      exact ⟨rfl, hb0.drewN' q⟩

end Go.Proofs.Ytmcfokeibecopaa

namespace Go.Proofs.Ytmcfokeibecopaa
open Go.RowKit

set_option maxRecDepth 100000 in
theorem set_drewN (w : World) (c : Array Value) (t : TypeId) (q i : Nat) (v : Value) : ((w.alloc (.cells c t)).drewN q).setCell ⟨w.heap.size, i, none⟩ v = (w.alloc (.cells (c.setIfInBounds i v) t)).drewN q := by
  show ((w.alloc (.cells c t)).setCell ⟨w.heap.size, i, none⟩ v).drewN q = _
  rw [World.setCell_alloc_at _ _ _ _ _ rfl]
set_option maxRecDepth 100000 in
theorem mul_wrap2 (x a b z : Nat) (h : x + (a * b + z) < 18446744073709551616) : IntKind.u64.wrap (IntKind.u64.wrap (IntKind.u64.wrap ((a : Int) * b) + z) + x) = ((x + (a * b + z) : Nat) : Int) := by
  rw [← Int.natCast_mul]
  generalize a * b = p at *
  rw [IntKind.wrap_u64, IntKind.wrap_u64, IntKind.wrap_u64]
  omega
set_option maxRecDepth 100000 in
theorem val_take_zeros {o : List Nat} {q : Nat} (h : ∀ p, q ≤ p → Lm.lg o p = 0) : Lm.val (o.take q) = Lm.val o := by
  have hd : ∀ m : List Nat, (∀ j, Lm.lg m j = 0) → Lm.val m = 0 := by
    intro m
    induction m with
    | nil => intro _; rfl
    | cons x m ih =>
      intro hm
      have hx : x = 0 := hm 0
      have hr := ih (fun j => by have := hm (j + 1); rwa [Lm.lg_succ] at this)
      simp only [Lm.val, hr, hx]
  conv => rhs; rw [← List.take_append_drop q o]
  rw [Lm.val_append, hd (o.drop q) (fun j => by
    have := h (q + j) (by omega)
    simp only [Lm.lg, List.getD_eq_getElem?_getD, List.getElem?_drop] at this ⊢
    exact this)]
  simp
set_option maxRecDepth 100000 in
theorem refmul_outer {t o l k : List Nat} {i m x : Nat} (hsl : Lm.Small l) (hsk : Lm.Small k) (hk : k.length = m)
    (hin : Lm.val (t.take (i + (m + 1))) + 4294967296 ^ (i + (m + 1)) * x = Lm.val (o.take (i + (m + 1))) + 4294967296 ^ i * (Lm.lg l i * Lm.val (k.take (m + 1))))
    (hold : ∀ p, i + (m + 1) ≤ p → Lm.lg t p = Lm.lg o p) (hinv : Lm.val o = Lm.val (l.take i) * Lm.val k) (hoz : ∀ p, i + m ≤ p → Lm.lg o p = 0) :
    Lm.val t = Lm.val (l.take (i + 1)) * Lm.val k ∧ ∀ p, i + 1 + m ≤ p → Lm.lg t p = 0 := by
  have hz : ∀ p, i + (m + 1) ≤ p → Lm.lg t p = 0 := fun p hp => by rw [hold p hp]; exact hoz p (by omega)
  refine ⟨?_, fun p hp => hz p (by omega)⟩
  rw [val_take_zeros hz, val_take_zeros (fun p hp => hoz p (by omega)), List.take_of_length_le (l := k) (by omega), hinv] at hin
  have hV : Lm.val (l.take i) * Lm.val k + 4294967296 ^ i * (Lm.lg l i * Lm.val k) = Lm.val (l.take (i + 1)) * Lm.val k := by
    rw [Lm.val_take_succ, Nat.add_mul, Nat.mul_assoc]
  rw [hV] at hin
  have b1 : Lm.val (l.take (i + 1)) < 4294967296 ^ (i + 1) := by
    refine Nat.lt_of_lt_of_le (Lm.val_lt (Lm.small_take hsl _)) (Nat.pow_le_pow_right (by decide) ?_)
    rw [List.length_take]; omega
  have b2 : Lm.val k < 4294967296 ^ m := by have := Lm.val_lt hsk; rwa [hk] at this
  have b3 : Lm.val (l.take (i + 1)) * Lm.val k < 4294967296 ^ (i + (m + 1)) := by
    rw [show i + (m + 1) = (i + 1) + m from by omega, Nat.pow_add]
    exact Nat.mul_lt_mul'' b1 b2
  generalize 4294967296 ^ (i + (m + 1)) = Q at *
  generalize Lm.val (l.take (i + 1)) * Lm.val k = V at *
  rcases Nat.eq_zero_or_pos x with h0 | h0
  · subst h0
    rw [Nat.mul_zero] at hin
    omega
  · have h4 : Q * 1 ≤ Q * x := Nat.mul_le_mul_left _ h0
    generalize Q * x = q at *
    omega
set_option maxRecDepth 100000 in
theorem lg_zeros (n p : Nat) : Lm.lg (List.replicate n 0) p = 0 := by
  simp only [Lm.lg, List.getD_eq_getElem?_getD, List.getElem?_replicate]
  split <;> rfl

end Go.Proofs.Ytmcfokeibecopaa

namespace Go.Proofs.Ytmcfokeibecopaa
open Go.RowKit

set_option maxRecDepth 100000 in
theorem or_u64' (v x : Nat) (hv : v ≤ 4294967295) (hx : x ≤ 4294967295) : bits .or .u64 ((v : Int) * 4294967296) (x : Int) = ((x + 4294967296 * v : Nat) : Int) := by
  have e : ((v : Int) * 4294967296) = ((v * 4294967296 : Nat) : Int) := by omega
  rw [e, bits_or_u64_nat _ _ (by omega) (by omega)]
  have h := Nat.shiftLeft_add_eq_or_of_lt (a := v) (b := x) (i := 32) (by omega)
  rw [Nat.shiftLeft_eq] at h
  rw [← h]
  congr 1
  omega
set_option maxRecDepth 100000 in
theorem val_drop_pred {l : List Nat} {j : Nat} (h0 : 0 < j) (hj : j ≤ l.length) : Lm.val (l.drop (j - 1)) = Lm.lg l (j - 1) + 4294967296 * Lm.val (l.drop j) := by
  obtain ⟨i, rfl⟩ : ∃ i, j = i + 1 := ⟨j - 1, by omega⟩
  rw [Nat.add_sub_cancel, List.drop_eq_getElem_cons (by omega), Lm.val]
  congr 1
  simp only [Lm.lg, List.getD_eq_getElem?_getD]
  rw [List.getElem?_eq_getElem (by omega)]
  rfl

set_option maxRecDepth 100000 in
set_option maxHeartbeats 1000000 in
theorem refSmall_no1 (w : World) (g : Bool) (A : Option Addr) (n c : Nat) (l : List Nat) (h : Raw w A n c l) (hm : mayB g l = false) :
    Calls Try.prog 60 #[.agg #[.bool g, .slice A n c]] w (SmallPost w 0 false) := by
  go_enter Try.func60, Try.ntmps60
  go_wp2_with fail
  have hb0 := ((Below.refl w.heap.size w).alloc (Nat.le_refl _) (.cells #[.bool g, .slice A n c] 24))
  have hxa := Box.new w (.bool g) (.slice A n c)
  have hAA := h.below hb0
  generalize w.alloc (.cells #[.bool g, .slice A n c] 24) = W at *
  refine (refMay_b W g A n c l hAA).mono ?_
  rintro e w1 ⟨rfl, hb1⟩
  have ya := hxa.below' hb1
  replace hAA := hAA.below hb1
  replace hb0 := hb0.trans (hb1.mono hb0.size)
  clear hxa hb1
  have x1 := ya.c0
  have x2 := ya.c1
  go_wp2
  go_ret2
  exact ⟨rfl, hb0⟩

set_option maxRecDepth 100000 in
set_option maxHeartbeats 1000000 in
theorem refSmall_no2 (w : World) (g : Bool) (A : Option Addr) (n c : Nat) (l : List Nat) (h : Raw w A n c l) (hm : mayB g l = true) (h2 : 2 < n) :
    Calls Try.prog 60 #[.agg #[.bool g, .slice A n c]] w (SmallPost w 0 false) := by
  go_enter Try.func60, Try.ntmps60
  go_wp2_with fail
  have hb0 := ((Below.refl w.heap.size w).alloc (Nat.le_refl _) (.cells #[.bool g, .slice A n c] 24))
  have hxa := Box.new w (.bool g) (.slice A n c)
  have hAA := h.below hb0
  generalize w.alloc (.cells #[.bool g, .slice A n c] 24) = W at *
  refine (refMay_b W g A n c l hAA).mono ?_
  rintro e w1 ⟨rfl, hb1⟩
  have ya := hxa.below' hb1
  replace hAA := hAA.below hb1
  replace hb0 := hb0.trans (hb1.mono hb0.size)
  clear hxa hb1
  have x1 := ya.c0
  have x2 := ya.c1
  have h2' : decide ((2 : Int) < (n : Int)) = true := by rw [decide_eq_true_iff]; omega
  go_wp2
  go_ret2
  exact ⟨rfl, hb0⟩

set_option maxRecDepth 100000 in
set_option maxHeartbeats 2000000 in
theorem refSmall_neg_in (w : World) (A : Option Addr) (n c : Nat) (l : List Nat) (h : Raw w A n c l) (hm : mayB true l = true) (h2 : n ≤ 2) (hv60 : Lm.val l ≤ 1152921504606846976) :
    Calls Try.prog 60 #[.agg #[.bool true, .slice A n c]] w (SmallPost w (-(Lm.val l : Int)) true) := by
  have h2' : decide ((2 : Int) < (n : Int)) = false := by rw [decide_eq_false_iff_not]; omega
  have h60 := Lib.hid hv60
  clear hv60
  go_enter Try.func60, Try.ntmps60
  go_wp2_with fail
  have hb0 := ((Below.refl w.heap.size w).alloc (Nat.le_refl _) (.cells #[.bool true, .slice A n c] 24))
  have hxa := Box.new w (.bool true) (.slice A n c)
  have hAA := h.below hb0
  generalize w.alloc (.cells #[.bool true, .slice A n c] 24) = W at *
  refine (refMay_b W true A n c l hAA).mono ?_
  rintro e w1 ⟨rfl, hb1⟩
  have ya := hxa.below' hb1
  replace hAA := hAA.below hb1
  replace hb0 := hb0.trans (hb1.mono hb0.size)
  clear hxa hb1
  have x1 := ya.c0
  have x2 := ya.c1
  go_wp2
  go_loop [4, 5] (fun u i => ∃ (j v : Nat), j ≤ n ∧ i = .int .i64 ((j : Int) - 1) ∧ u = .int .u64 (v : Int) ∧ Hid (v = Lm.val (l.drop j))) (fun _ i => (intOf i + 1).toNat)
  case atStart => exact ⟨n, 0, Nat.le_refl _, rfl, rfl, Lib.hid (by rw [List.drop_of_length_le (by rw [hAA.1.1]; exact Nat.le_refl _)]; rfl)⟩
  case round =>
    obtain ⟨j, v, hj, rfl, rfl, hv⟩ := hrel
    by_cases h0 : 0 < j
    · obtain ⟨b, o, rfl, hb, hcell⟩ := hAA.1.2.2.2 (by omega)
      have hg := hcell (j - 1) (by omega)
      obtain ⟨x, hx⟩ : ∃ x, x = Lm.lg l (j - 1) := ⟨_, rfl⟩
      have hl0 : x ≤ 4294967295 := by rw [hx]; have := Lm.lg_lt hAA.1.2.2.1 (j - 1); omega
      rw [← hx] at hg
      have hX := Lib.hid hx
      have hvl : v ≤ 4294967295 := by
        rw [hv.out]
        have hs : Lm.Small (l.drop j) := fun y hy => hAA.1.2.2.1 y (List.mem_of_mem_drop hy)
        have h1 := Lm.val_lt hs
        have h2 : (l.drop j).length ≤ 1 := by rw [List.length_drop, hAA.1.1]; omega
        have h3 : 4294967296 ^ (l.drop j).length ≤ 4294967296 ^ 1 := Nat.pow_le_pow_right (by decide) h2
        omega
      have hstep := Lib.hid (show x + 4294967296 * v = Lm.val (l.drop (j - 1)) by rw [val_drop_pred h0 (by rw [hAA.1.1]; exact hj), hv.out, hx])
      have hpos : (0 : Int) ≤ (j : Int) - 1 := by omega
      have hpos1 : (1 : Int) ≤ (j : Int) := by omega
      have hpos2 : (j : Int) - 1 < (n : Int) := by omega
      clear hcell hx
      go_wp2
      rw [or_u64' v x hvl hl0]
      exact ⟨⟨j - 1, _, by omega, by go_num, rfl, hstep⟩, by simp [intOf]; omega⟩
    · have hjn : j = 0 := by omega
      subst hjn
      have hvl := Lib.hid (show v = Lm.val l by rw [hv.out]; rfl)
      have h60' := h60.out
      have ht : decide ((v : Int) ≤ 1152921504606846976) = true := by rw [decide_eq_true_iff]; rw [hvl.out]; omega
      have hvb : v ≤ 1152921504606846976 := by rw [hvl.out]; omega
      clear h60'
      go_wp2
      go_ret2
      exact ⟨by rw [hvl.out]; rfl, hb0⟩

set_option maxRecDepth 100000 in
set_option maxHeartbeats 2000000 in
theorem refSmall_neg_out (w : World) (A : Option Addr) (n c : Nat) (l : List Nat) (h : Raw w A n c l) (hm : mayB true l = true) (h2 : n ≤ 2) (hv60 : 1152921504606846976 < Lm.val l) :
    Calls Try.prog 60 #[.agg #[.bool true, .slice A n c]] w (SmallPost w (0) false) := by
  have h2' : decide ((2 : Int) < (n : Int)) = false := by rw [decide_eq_false_iff_not]; omega
  have h60 := Lib.hid hv60
  clear hv60
  go_enter Try.func60, Try.ntmps60
  go_wp2_with fail
  have hb0 := ((Below.refl w.heap.size w).alloc (Nat.le_refl _) (.cells #[.bool true, .slice A n c] 24))
  have hxa := Box.new w (.bool true) (.slice A n c)
  have hAA := h.below hb0
  generalize w.alloc (.cells #[.bool true, .slice A n c] 24) = W at *
  refine (refMay_b W true A n c l hAA).mono ?_
  rintro e w1 ⟨rfl, hb1⟩
  have ya := hxa.below' hb1
  replace hAA := hAA.below hb1
  replace hb0 := hb0.trans (hb1.mono hb0.size)
  clear hxa hb1
  have x1 := ya.c0
  have x2 := ya.c1
  go_wp2
  go_loop [4, 5] (fun u i => ∃ (j v : Nat), j ≤ n ∧ i = .int .i64 ((j : Int) - 1) ∧ u = .int .u64 (v : Int) ∧ Hid (v = Lm.val (l.drop j))) (fun _ i => (intOf i + 1).toNat)
  case atStart => exact ⟨n, 0, Nat.le_refl _, rfl, rfl, Lib.hid (by rw [List.drop_of_length_le (by rw [hAA.1.1]; exact Nat.le_refl _)]; rfl)⟩
  case round =>
    obtain ⟨j, v, hj, rfl, rfl, hv⟩ := hrel
    by_cases h0 : 0 < j
    · obtain ⟨b, o, rfl, hb, hcell⟩ := hAA.1.2.2.2 (by omega)
      have hg := hcell (j - 1) (by omega)
      obtain ⟨x, hx⟩ : ∃ x, x = Lm.lg l (j - 1) := ⟨_, rfl⟩
      have hl0 : x ≤ 4294967295 := by rw [hx]; have := Lm.lg_lt hAA.1.2.2.1 (j - 1); omega
      rw [← hx] at hg
      have hX := Lib.hid hx
      have hvl : v ≤ 4294967295 := by
        rw [hv.out]
        have hs : Lm.Small (l.drop j) := fun y hy => hAA.1.2.2.1 y (List.mem_of_mem_drop hy)
        have h1 := Lm.val_lt hs
        have h2 : (l.drop j).length ≤ 1 := by rw [List.length_drop, hAA.1.1]; omega
        have h3 : 4294967296 ^ (l.drop j).length ≤ 4294967296 ^ 1 := Nat.pow_le_pow_right (by decide) h2
        omega
      have hstep := Lib.hid (show x + 4294967296 * v = Lm.val (l.drop (j - 1)) by rw [val_drop_pred h0 (by rw [hAA.1.1]; exact hj), hv.out, hx])
      have hpos : (0 : Int) ≤ (j : Int) - 1 := by omega
      have hpos1 : (1 : Int) ≤ (j : Int) := by omega
      have hpos2 : (j : Int) - 1 < (n : Int) := by omega
      clear hcell hx
      go_wp2
      rw [or_u64' v x hvl hl0]
      exact ⟨⟨j - 1, _, by omega, by go_num, rfl, hstep⟩, by simp [intOf]; omega⟩
    · have hjn : j = 0 := by omega
      subst hjn
      have hvl := Lib.hid (show v = Lm.val l by rw [hv.out]; rfl)
      have h60' := h60.out
      have ht : decide ((v : Int) ≤ 1152921504606846976) = false := by rw [decide_eq_false_iff_not]; rw [hvl.out]; omega
      skip
      clear h60'
      go_wp2
      go_ret2
      exact ⟨rfl, hb0⟩

set_option maxRecDepth 100000 in
set_option maxHeartbeats 2000000 in
theorem refSmall_pos_in (w : World) (A : Option Addr) (n c : Nat) (l : List Nat) (h : Raw w A n c l) (hm : mayB false l = true) (h2 : n ≤ 2) (hv60 : Lm.val l ≤ 1152921504606846975) :
    Calls Try.prog 60 #[.agg #[.bool false, .slice A n c]] w (SmallPost w ((Lm.val l : Int)) true) := by
  have h2' : decide ((2 : Int) < (n : Int)) = false := by rw [decide_eq_false_iff_not]; omega
  have h60 := Lib.hid hv60
  clear hv60
  go_enter Try.func60, Try.ntmps60
  go_wp2_with fail
  have hb0 := ((Below.refl w.heap.size w).alloc (Nat.le_refl _) (.cells #[.bool false, .slice A n c] 24))
  have hxa := Box.new w (.bool false) (.slice A n c)
  have hAA := h.below hb0
  generalize w.alloc (.cells #[.bool false, .slice A n c] 24) = W at *
  refine (refMay_b W false A n c l hAA).mono ?_
  rintro e w1 ⟨rfl, hb1⟩
  have ya := hxa.below' hb1
  replace hAA := hAA.below hb1
  replace hb0 := hb0.trans (hb1.mono hb0.size)
  clear hxa hb1
  have x1 := ya.c0
  have x2 := ya.c1
  go_wp2
  go_loop [4, 5] (fun u i => ∃ (j v : Nat), j ≤ n ∧ i = .int .i64 ((j : Int) - 1) ∧ u = .int .u64 (v : Int) ∧ Hid (v = Lm.val (l.drop j))) (fun _ i => (intOf i + 1).toNat)
  case atStart => exact ⟨n, 0, Nat.le_refl _, rfl, rfl, Lib.hid (by rw [List.drop_of_length_le (by rw [hAA.1.1]; exact Nat.le_refl _)]; rfl)⟩
  case round =>
    obtain ⟨j, v, hj, rfl, rfl, hv⟩ := hrel
    by_cases h0 : 0 < j
    · obtain ⟨b, o, rfl, hb, hcell⟩ := hAA.1.2.2.2 (by omega)
      have hg := hcell (j - 1) (by omega)
      obtain ⟨x, hx⟩ : ∃ x, x = Lm.lg l (j - 1) := ⟨_, rfl⟩
      have hl0 : x ≤ 4294967295 := by rw [hx]; have := Lm.lg_lt hAA.1.2.2.1 (j - 1); omega
      rw [← hx] at hg
      have hX := Lib.hid hx
      have hvl : v ≤ 4294967295 := by
        rw [hv.out]
        have hs : Lm.Small (l.drop j) := fun y hy => hAA.1.2.2.1 y (List.mem_of_mem_drop hy)
        have h1 := Lm.val_lt hs
        have h2 : (l.drop j).length ≤ 1 := by rw [List.length_drop, hAA.1.1]; omega
        have h3 : 4294967296 ^ (l.drop j).length ≤ 4294967296 ^ 1 := Nat.pow_le_pow_right (by decide) h2
        omega
      have hstep := Lib.hid (show x + 4294967296 * v = Lm.val (l.drop (j - 1)) by rw [val_drop_pred h0 (by rw [hAA.1.1]; exact hj), hv.out, hx])
      have hpos : (0 : Int) ≤ (j : Int) - 1 := by omega
      have hpos1 : (1 : Int) ≤ (j : Int) := by omega
      have hpos2 : (j : Int) - 1 < (n : Int) := by omega
      clear hcell hx
      go_wp2
      rw [or_u64' v x hvl hl0]
      exact ⟨⟨j - 1, _, by omega, by go_num, rfl, hstep⟩, by simp [intOf]; omega⟩
    · have hjn : j = 0 := by omega
      subst hjn
      have hvl := Lib.hid (show v = Lm.val l by rw [hv.out]; rfl)
      have h60' := h60.out
      have ht : decide ((v : Int) < 1152921504606846976) = true := by rw [decide_eq_true_iff]; rw [hvl.out]; omega
      have hvb : v ≤ 1152921504606846976 := by rw [hvl.out]; omega
      clear h60'
      go_wp2
      go_ret2
      exact ⟨by rw [hvl.out]; rfl, hb0⟩

set_option maxRecDepth 100000 in
set_option maxHeartbeats 2000000 in
theorem refSmall_pos_out (w : World) (A : Option Addr) (n c : Nat) (l : List Nat) (h : Raw w A n c l) (hm : mayB false l = true) (h2 : n ≤ 2) (hv60 : 1152921504606846975 < Lm.val l) :
    Calls Try.prog 60 #[.agg #[.bool false, .slice A n c]] w (SmallPost w (0) false) := by
  have h2' : decide ((2 : Int) < (n : Int)) = false := by rw [decide_eq_false_iff_not]; omega
  have h60 := Lib.hid hv60
  clear hv60
  go_enter Try.func60, Try.ntmps60
  go_wp2_with fail
  have hb0 := ((Below.refl w.heap.size w).alloc (Nat.le_refl _) (.cells #[.bool false, .slice A n c] 24))
  have hxa := Box.new w (.bool false) (.slice A n c)
  have hAA := h.below hb0
  generalize w.alloc (.cells #[.bool false, .slice A n c] 24) = W at *
  refine (refMay_b W false A n c l hAA).mono ?_
  rintro e w1 ⟨rfl, hb1⟩
  have ya := hxa.below' hb1
  replace hAA := hAA.below hb1
  replace hb0 := hb0.trans (hb1.mono hb0.size)
  clear hxa hb1
  have x1 := ya.c0
  have x2 := ya.c1
  go_wp2
  go_loop [4, 5] (fun u i => ∃ (j v : Nat), j ≤ n ∧ i = .int .i64 ((j : Int) - 1) ∧ u = .int .u64 (v : Int) ∧ Hid (v = Lm.val (l.drop j))) (fun _ i => (intOf i + 1).toNat)
  case atStart => exact ⟨n, 0, Nat.le_refl _, rfl, rfl, Lib.hid (by rw [List.drop_of_length_le (by rw [hAA.1.1]; exact Nat.le_refl _)]; rfl)⟩
  case round =>
    obtain ⟨j, v, hj, rfl, rfl, hv⟩ := hrel
    by_cases h0 : 0 < j
    · obtain ⟨b, o, rfl, hb, hcell⟩ := hAA.1.2.2.2 (by omega)
      have hg := hcell (j - 1) (by omega)
      obtain ⟨x, hx⟩ : ∃ x, x = Lm.lg l (j - 1) := ⟨_, rfl⟩
      have hl0 : x ≤ 4294967295 := by rw [hx]; have := Lm.lg_lt hAA.1.2.2.1 (j - 1); omega
      rw [← hx] at hg
      have hX := Lib.hid hx
      have hvl : v ≤ 4294967295 := by
        rw [hv.out]
        have hs : Lm.Small (l.drop j) := fun y hy => hAA.1.2.2.1 y (List.mem_of_mem_drop hy)
        have h1 := Lm.val_lt hs
        have h2 : (l.drop j).length ≤ 1 := by rw [List.length_drop, hAA.1.1]; omega
        have h3 : 4294967296 ^ (l.drop j).length ≤ 4294967296 ^ 1 := Nat.pow_le_pow_right (by decide) h2
        omega
      have hstep := Lib.hid (show x + 4294967296 * v = Lm.val (l.drop (j - 1)) by rw [val_drop_pred h0 (by rw [hAA.1.1]; exact hj), hv.out, hx])
      have hpos : (0 : Int) ≤ (j : Int) - 1 := by omega
      have hpos1 : (1 : Int) ≤ (j : Int) := by omega
      have hpos2 : (j : Int) - 1 < (n : Int) := by omega
      clear hcell hx
      go_wp2
      rw [or_u64' v x hvl hl0]
      exact ⟨⟨j - 1, _, by omega, by go_num, rfl, hstep⟩, by simp [intOf]; omega⟩
    · have hjn : j = 0 := by omega
      subst hjn
      have hvl := Lib.hid (show v = Lm.val l by rw [hv.out]; rfl)
      have h60' := h60.out
      have ht : decide ((v : Int) < 1152921504606846976) = false := by rw [decide_eq_false_iff_not]; rw [hvl.out]; omega
      skip
      clear h60'
      go_wp2
      go_ret2
      exact ⟨rfl, hb0⟩

set_option maxRecDepth 100000 in
theorem refSmall_yes (w : World) (g : Bool) (A : Option Addr) (n c : Nat) (l : List Nat) (h : Raw w A n c l) (hm : mayB g l = true) :
    Calls Try.prog 60 #[.agg #[.bool g, .slice A n c]] w (SmallPost w (if smallB (sgn g (Lm.val l)) then sgn g (Lm.val l) else 0) (smallB (sgn g (Lm.val l)))) := by
  have hcan := mayB_canon hm
  have hsm := h.1.2.2.1
  by_cases h2 : n ≤ 2
  · cases g with
    | true =>
      by_cases hv : Lm.val l ≤ 1152921504606846976
      · have e : smallB (sgn true (Lm.val l)) = true := by simp [smallB, sgn]; omega
        rw [e, if_pos rfl]
        exact refSmall_neg_in w A n c l h hm h2 hv
      · have e : smallB (sgn true (Lm.val l)) = false := by simp [smallB, sgn]; omega
        rw [e]
        exact refSmall_neg_out w A n c l h hm h2 (by omega)
    | false =>
      by_cases hv : Lm.val l ≤ 1152921504606846975
      · have e : smallB (sgn false (Lm.val l)) = true := by simp [smallB, sgn]; omega
        rw [e, if_pos rfl]
        exact refSmall_pos_in w A n c l h hm h2 hv
      · have e : smallB (sgn false (Lm.val l)) = false := by simp [smallB, sgn]; omega
        rw [e]
        exact refSmall_pos_out w A n c l h hm h2 (by omega)
  · have hbig : ¬ Lm.val l < 4294967296 ^ 2 := fun hlt => by
      have := (Lm.digits_length (Lm.val l) 2).2 hlt
      rw [Lm.digits_val hsm hcan, h.1.1] at this
      exact h2 this
    have e : smallB (sgn g (Lm.val l)) = false := by
      cases g <;> simp [smallB, sgn] <;> omega
    rw [e]
    exact refSmall_no2 w g A n c l h hm (by omega)

end Go.Proofs.Ytmcfokeibecopaa
