/-
  CONTRACTS OF THE LAWS' OWN FUNCTIONS ON INTEGERS (beehiveref1): May, at, size, fit, may.
-/
import Derived.Test.YtbpihjcghmmacaaNumZ
namespace Go.Proofs.Ytbpihjcghmmacaa
open Go.RowKit

set_option maxHeartbeats 400000 in
theorem refMay_any (w : World) (g : Bool) (A : Option Addr) (n c : Nat) (l : List Nat) (h : Lim w A n c l) (_hn : c ≤ maxLen) :
    Calls Try.prog 44 #[.agg #[.bool g, .slice A n c]] w fun e w' => e = .returned (.bool (mayB g l)) ∧ w' = w.alloc (.cells #[.bool g, .slice A n c] 24) := by
  unfold maxLen at _hn
  have hnc := h.2.1
  have hll := Lib.hid h.1
  by_cases h0 : n = 0
  · subst h0
    have fin : Hid (mayB g l = !g) := by unfold mayB; rw [if_pos hll.out]; rfl
    cases g
    all_goals (
      go_enter Try.func44, Try.ntmps44
      go_wp2
      go_ret
      rw [fin.out]
      exact ⟨rfl, rfl⟩)
  · have hne : (((n : Nat) : Int) == 0) = false := by rw [beq_eq_false_iff_ne]; omega
    obtain ⟨b, o, rfl, hlt, hcell⟩ := h.2.2.2 (by omega)
    have hg := hcell (n - 1) (by omega)
    clear hcell
    by_cases h8 : n ≤ 8
    · by_cases hx : Lm.lg l (n - 1) = 0
      · have fin := Lib.hid (show mayB g l = false by unfold mayB; rw [hll.out, if_neg h0]; simp [hx])
        rw [hx] at hg
        have hX := Lib.hid hx
        clear hx
        go_enter Try.func44, Try.ntmps44
        go_wp2
        go_ret
        rw [fin.out]
        exact ⟨rfl, rfl⟩
      · have fin := Lib.hid (show mayB g l = true by unfold mayB; rw [hll.out, if_neg h0]; simp [hx, h8])
        have hx' : (((Lm.lg l (n - 1) : Nat) : Int) != 0) = true := by rw [bne_iff_ne]; omega
        go_enter Try.func44, Try.ntmps44
        go_wp2
        go_ret
        rw [fin.out]
        exact ⟨rfl, rfl⟩
    · have fin := Lib.hid (show mayB g l = false by unfold mayB; rw [hll.out, if_neg h0]; simp [h8])
      go_enter Try.func44, Try.ntmps44
      go_wp2
      go_ret
      rw [fin.out]
      exact ⟨rfl, rfl⟩

theorem refMay_b (w : World) (g : Bool) (A : Option Addr) (n c : Nat) (l : List Nat) (h : Raw w A n c l) :
    Calls Try.prog 44 #[.agg #[.bool g, .slice A n c]] w fun e w' => e = .returned (.bool (mayB g l)) ∧ Below w.heap.size w w' :=
  (refMay_any w g A n c l h.1 h.2).mono fun _ _ ⟨he, hw⟩ => ⟨he, by rw [hw]; exact (Below.refl _ _).alloc (Nat.le_refl _) _⟩

set_option maxHeartbeats 800000 in
theorem size_any (w : World) (A B : Option Addr) (n c m d : Nat) (l k : List Nat) (h : Lim w A n c l) (hn : c ≤ maxLen) (h' : Lim w B m d k) (_hm : d ≤ maxLen) (hcl : Lm.Canon l) (hck : Lm.Canon k) :
    Calls Try.prog 47 #[.slice A n c, .slice B m d] w fun e w' => e = .returned (.int .i64 (Lm.cmpN (Lm.val l) (Lm.val k))) ∧ ∃ q, w' = w.drewN q := by
  unfold maxLen at hn _hm
  have hnc := h.2.1
  have hmd := h'.2.1
  have hll := Lib.hid h.1
  have hkk := Lib.hid h'.1
  by_cases hnm : n = m
  · subst hnm
    go_enter Try.func47, Try.ntmps47
    go_wp2
    go_loopw [5] (fun i w' => ∃ j : Nat, j ≤ n ∧ i = .int .i64 ((j : Int) - 1) ∧ (∃ q, w' = w.drewN q) ∧ Hid (∀ t, j ≤ t → t < n → Lm.lg l t = Lm.lg k t)) (fun i _ => (intOf i + 1).toNat)
    case atStart => exact ⟨n, Nat.le_refl _, rfl, ⟨0, rfl⟩, fun t h1 h2 => by omega⟩
    case round =>
      obtain ⟨j, hj, rfl, ⟨q, rfl⟩, hz⟩ := hrel
      by_cases h0 : j = 0
      · subst h0
        have e := Lm.eq_of_lg (hll.out.trans hkk.out.symm) (fun t ht => hz.out t (by omega) (by rw [← hll.out]; exact ht))
        have fin := Lib.hid (show Lm.cmpN (Lm.val l) (Lm.val k) = 0 by rw [e]; unfold Lm.cmpN; simp)
        clear e
        go_wp2
        go_ret
        rw [fin.out]
        exact ⟨rfl, q, rfl⟩
      · obtain ⟨b, o, rfl, hlt, hcell⟩ := h.2.2.2 (by omega)
        obtain ⟨b', o', rfl, hlt', hcell'⟩ := h'.2.2.2 (by omega)
        have hg := hcell (j - 1) (by omega)
        have hg' := hcell' (j - 1) (by omega)
        have hpos : (0 : Int) ≤ (j : Int) - 1 := by omega
        have hpos1 : (1 : Int) ≤ (j : Int) := by omega
        have hpos2 : (j : Int) - 1 < (n : Int) := by omega
        clear hcell hcell'
        rcases Nat.lt_trichotomy (Lm.lg l (j - 1)) (Lm.lg k (j - 1)) with hx | hx | hx
        · have hlt1 : decide (Lm.lg l (j - 1) < Lm.lg k (j - 1)) = true := by rw [decide_eq_true_iff]; exact hx
          have fin := Lib.hid (show Lm.cmpN (Lm.val l) (Lm.val k) = -1 by rw [cmp_top h.2.2.1 h'.2.2.1 (j - 1) (hll.out.trans hkk.out.symm) (by have := hll.out; omega) (fun t h1 h2 => hz.out t (by omega) (by have := hll.out; omega)) (by omega)]; unfold Lm.cmpN; rw [if_pos hx])
          go_wp2
          go_quiet (fail)
          go_wp2
          go_ret
          rw [fin.out]
          exact ⟨rfl, _, by rw [World.drewN_drewN]⟩
        · have hne1 : decide (Lm.lg l (j - 1) < Lm.lg k (j - 1)) = false := by rw [decide_eq_false_iff_not]; omega
          have hne2 : decide (Lm.lg k (j - 1) < Lm.lg l (j - 1)) = false := by rw [decide_eq_false_iff_not]; omega
          have hX := Lib.hid hx
          clear hx
          go_wp2
          go_quiet (fail)
          go_wp2
          go_quiet (fail)
          go_wp2
          go_roundw
          case rel => exact ⟨j - 1, by omega, by go_num, ⟨_, rfl⟩, fun t h1 h2 => by
            by_cases e : t = j - 1
            · rw [e]; exact hX.out
            · exact hz.out t (by omega) h2⟩
          case measure => simp [intOf]; omega
        · have hne1 : decide (Lm.lg l (j - 1) < Lm.lg k (j - 1)) = false := by rw [decide_eq_false_iff_not]; omega
          have hne2 : decide (Lm.lg k (j - 1) < Lm.lg l (j - 1)) = true := by rw [decide_eq_true_iff]; omega
          have fin := Lib.hid (show Lm.cmpN (Lm.val l) (Lm.val k) = 1 by rw [cmp_top h.2.2.1 h'.2.2.1 (j - 1) (hll.out.trans hkk.out.symm) (by have := hll.out; omega) (fun t h1 h2 => hz.out t (by omega) (by have := hll.out; omega)) (by omega)]; unfold Lm.cmpN; rw [if_neg (by omega), if_pos hx])
          go_wp2
          go_quiet (fail)
          go_wp2
          go_quiet (fail)
          go_wp2
          go_ret
          rw [fin.out]
          exact ⟨rfl, _, by rw [World.drewN_drewN, World.drewN_drewN]⟩
  · have hne : (((n : Nat) : Int) != ((m : Nat) : Int)) = true := by rw [bne_iff_ne]; omega
    have fin := Lib.hid (cmp_len h.2.2.1 h'.2.2.1 hcl hck (by rw [hll.out, hkk.out]; exact hnm))
    rcases Nat.lt_or_ge n m with hx | hx
    · have f2 := Lib.hid (show Lm.cmpN l.length k.length = -1 by rw [hll.out, hkk.out]; unfold Lm.cmpN; rw [if_pos hx])
      have hd : decide (n < m) = true := decide_eq_true hx
      go_enter Try.func47, Try.ntmps47
      go_wp2
      go_ret
      rw [fin.out, f2.out]
      exact ⟨rfl, 0, rfl⟩
    · have f2 := Lib.hid (show Lm.cmpN l.length k.length = 1 by rw [hll.out, hkk.out]; unfold Lm.cmpN; rw [if_neg (by omega), if_pos (by omega)])
      have hd : decide (n < m) = false := decide_eq_false (by omega)
      go_enter Try.func47, Try.ntmps47
      go_wp2
      go_ret
      rw [fin.out, f2.out]
      exact ⟨rfl, 0, rfl⟩

set_option maxHeartbeats 1000000 in
theorem fit_any (w : World) (g : Bool) (A : Option Addr) (n c : Nat) (l : List Nat) (h : Lim w A n c l) (hn : n ≤ 1000) (hc : c ≤ maxLen) :
    Calls Try.prog 54 #[.bool g, .slice A n c] w (OnePost w (sgn g (Lm.val l))) := by
  have hnc := h.2.1
  have hsm := h.2.2.1
  have hll := Lib.hid h.1
  have hb0 := (Below.refl w.heap.size w).alloc (Nat.le_refl _) (.cells #[.bool false, .slice none 0 0] 24)
  have hbx := Box.new w (.bool false) (.slice none 0 0)
  have hL := h.alloc (.cells #[.bool false, .slice none 0 0] 24)
  have hmx : c ≤ 9223372036854775807 := by unfold maxLen at hc; exact hc
  go_enter Try.func54, Try.ntmps54
  go_wp2
  generalize w.alloc (.cells #[.bool false, .slice none 0 0] 24) = W at *
  go_loop [5] (fun i => ∃ k : Nat, k ≤ n ∧ i = .int .i64 k ∧ Hid (∀ j, k ≤ j → j < l.length → l.getD j 0 = 0)) (fun i => (intOf i).toNat)
  case atStart => exact ⟨n, Nat.le_refl _, rfl, fun j h1 h2 => by have := hll.out; omega⟩
  case round =>
    obtain ⟨k, hk, rfl, hz⟩ := hrel
    by_cases h0 : k = 0
    · subst h0
      have fin := Lm.digits_prefix hsm 0 (by omega) hz.out (.inl rfl)
      have hv : Lm.val l = 0 := Lm.digits_eq_nil.1 (by rw [fin]; simp)
      have hs0 := Lib.hid (show sgn g (Lm.val l) = 0 by rw [hv]; cases g <;> rfl)
      clear fin hv
      have x0 := hbx.c0
      have x1 := hbx.c1
      have f0 := hbx.f0
      have f1 := hbx.f1
      go_wp2
      obtain ⟨hB, hNV, hbl⟩ := close_num (s := false) (A := none) (n := 0) (c := 0) (z := 0) (base := w.heap.size) (base' := w.heap.size) hbx (Nat.le_refl _) hb0 (Lib.hid rfl) (by rw [show (0 : Int).natAbs = 0 from rfl, Lm.digits_zero]; exact Own.nil _ _) (Nat.le_refl _)
      generalize (W.setCell ⟨w.heap.size, 0, none⟩ (.bool false)).setCell ⟨w.heap.size, 1, none⟩ (.slice none 0 0) = W2 at *
      have hy0 := hB.c0
      have hy1 := hB.c1
      refine bodyPost_ret (v := .agg #[.bool false, .slice none 0 0]) (by simp [results, Try.results54, go_sem, hy0, hy1]) rfl ?_
      rw [hs0.out]
      exact ⟨_, rfl, hNV, hbl⟩
    · obtain ⟨b, o, rfl, hlt, hcell⟩ := hL.2.2.2 (by omega)
      have hg := hcell (k - 1) (by omega)
      have hpos : (0 : Int) < (k : Int) := by omega
      have hh := Lib.hid hcell
      clear hcell
      by_cases hx : Lm.lg l (k - 1) = 0
      · rw [hx] at hg
        have hX := Lib.hid hx
        clear hx
        go_wp2
        go_round
        case rel => exact ⟨k - 1, by omega, by go_num, fun j h1 h2 => by
          by_cases e : j = k - 1
          · rw [e]; exact hX.out
          · exact hz.out j (by omega) h2⟩
        case measure => simp [intOf]; omega
      · have hx' : (((Lm.lg l (k - 1) : Nat) : Int) == 0) = false := by rw [beq_eq_false_iff_ne]; omega
        have hk0 : (((k : Nat) : Int) == 0) = false := by rw [beq_eq_false_iff_ne]; omega
        have fin := Lib.hid (Lm.digits_prefix hsm k (by rw [hll.out]; exact hk) hz.out (.inr hx))
        obtain ⟨A', c', w1, hrun, hO, hB0⟩ := append_lim W W.heap.size none 0 0 [] (Own.nil _ _) (some ⟨b, o, none⟩) k c (l.take k) (hL.take k hk) (by omega) (Nat.le_refl _) 22
        rw [Nat.zero_add, List.nil_append] at hO
        rw [Nat.zero_add] at hrun
        have hR := Lib.hid hrun
        clear hrun
        have r := hbx.below' hB0
        have x0 := r.c0
        have x1 := r.c1
        have f0 := r.f0
        have f1 := r.f1
        go_wp2_with (at_builtin; refine wpList_append_run rfl _ _ _ rfl _ _ _ rfl rfl hR.out ?_)
        have hsg : Hid (g = decide (sgn g (Lm.val l) < 0)) := by
          refine Lib.hid ?_
          have hne : Lm.val l ≠ 0 := fun e => by
            have := fin.out
            rw [e, Lm.digits_zero] at this
            have h2 := congrArg List.length this
            rw [List.length_take, hll.out] at h2
            simp at h2
            omega
          cases g <;> simp [sgn] <;> omega
        have hO2 : Own w1 W.heap.size A' k c' (Lm.digits (sgn g (Lm.val l)).natAbs) := by rw [natAbs_sgn, fin.out]; exact hO
        obtain ⟨hB, hNV, hbl⟩ := close_num (base' := w.heap.size) r (Nat.le_refl _) (hb0.trans (hB0.mono hb0.size)) hsg hO2 hb0.size
        generalize (w1.setCell ⟨w.heap.size, 0, none⟩ (.bool g)).setCell ⟨w.heap.size, 1, none⟩ (.slice A' k c') = W2 at *
        have hy0 := hB.c0
        have hy1 := hB.c1
        exact bodyPost_ret (v := .agg #[.bool g, .slice A' k c']) (by simp [results, Try.results54, go_sem, hy0, hy1]) rfl ⟨_, rfl, hNV, hbl⟩

end Go.Proofs.Ytbpihjcghmmacaa
