/-
  CONTRACTS OF THE LAWS' OWN FUNCTIONS ON INTEGERS (beehiveref1): May, at, size, fit, may.
  CONTRACTS OF THE LAWS' OWN FUNCTIONS ON INTEGERS (beehiveref1): may, plus, minus, Of.
  CONTRACTS OF THE LAWS' OWN FUNCTIONS ON INTEGERS (beehiveref1): Of, Neg, Add.
  CONTRACTS OF THE LAWS' OWN FUNCTIONS ON INTEGERS (beehiveref1): Add whole, Sub, Cmp.
  CONTRACTS OF THE LAWS' OWN FUNCTIONS ON INTEGERS (beehiveref1): Mul.
  CONTRACTS OF THE LAWS' OWN FUNCTIONS ON INTEGERS (beehiveref1): Small.
-/
import Derived.Test.YtompimbeaeinbaaGreatJ2
namespace Go.Proofs.YtompimbeaeinbaaGreat
open Go.RowKit

set_option maxRecDepth 100000 in
set_option maxHeartbeats 400000 in
theorem refMay_any (w : World) (g : Bool) (A : Option Addr) (n c : Nat) (l : List Nat) (h : Lim w A n c l) (_hn : c ≤ maxLen) :
    Calls Tryz.prog 58 #[.agg #[.bool g, .slice A n c]] w fun e w' => e = .returned (.bool (mayB g l)) ∧ w' = w.alloc (.cells #[.bool g, .slice A n c] 24) := by
  unfold maxLen at _hn
  have hnc := h.2.1
  have hll := Lib.hid h.1
  by_cases h0 : n = 0
  · subst h0
    have fin : Hid (mayB g l = !g) := by unfold mayB; rw [if_pos hll.out]; rfl
    cases g
    all_goals (
      go_enter Tryz.func58, Tryz.ntmps58
      go_wp2
      go_ret
      rw [fin.out]
      exact ⟨rfl, rfl⟩)
  · have hne : (((n : Nat) : Int) == 0) = false := by rw [beq_eq_false_iff_ne]; omega
    obtain ⟨b, o, rfl, hlt, hcell⟩ := h.2.2.2 (by omega)
    have hg := hcell (n - 1) (by omega)
    clear hcell
    by_cases h8 : n ≤ 8
    · by_cases hx : Lm.lg l (n - 1) = 0
      · have fin := Lib.hid (show mayB g l = false by unfold mayB; rw [hll.out, if_neg h0]; simp [hx])
        rw [hx] at hg
        have hX := Lib.hid hx
        clear hx
        go_enter Tryz.func58, Tryz.ntmps58
        go_wp2
        go_ret
        rw [fin.out]
        exact ⟨rfl, rfl⟩
      · have fin := Lib.hid (show mayB g l = true by unfold mayB; rw [hll.out, if_neg h0]; simp [hx, h8])
        have hx' : (((Lm.lg l (n - 1) : Nat) : Int) != 0) = true := by rw [bne_iff_ne]; omega
        go_enter Tryz.func58, Tryz.ntmps58
        go_wp2
        go_ret
        rw [fin.out]
        exact ⟨rfl, rfl⟩
    · have fin := Lib.hid (show mayB g l = false by unfold mayB; rw [hll.out, if_neg h0]; simp [h8])
      go_enter Tryz.func58, Tryz.ntmps58
      go_wp2
      go_ret
      rw [fin.out]
      exact ⟨rfl, rfl⟩

set_option maxRecDepth 100000 in
theorem refMay_b (w : World) (g : Bool) (A : Option Addr) (n c : Nat) (l : List Nat) (h : Raw w A n c l) :
    Calls Tryz.prog 58 #[.agg #[.bool g, .slice A n c]] w fun e w' => e = .returned (.bool (mayB g l)) ∧ Below w.heap.size w w' :=
  (refMay_any w g A n c l h.1 h.2).mono fun _ _ ⟨he, hw⟩ => ⟨he, by rw [hw]; exact (Below.refl _ _).alloc (Nat.le_refl _) _⟩

set_option maxRecDepth 100000 in
theorem at_any (w : World) (A : Option Addr) (n c : Nat) (l : List Nat) (i : Nat) (h : Lim w A n c l) (hi : i ≤ 100000) :
    Calls Tryz.prog 66 #[.slice A n c, .int .i64 (i : Int)] w fun e w' => e = .returned (.int .u64 (Lm.lg l i : Nat)) ∧ w = w' := by
  by_cases h0 : i < n
  · obtain ⟨b, o, rfl, hb, hcell⟩ := h.2.2.2 (by omega)
    have hg : w.cell? ⟨b, o + i, none⟩ = some (.int .u32 (Lm.lg l i : Nat)) := hcell i h0
    have hl0 : Lm.lg l i ≤ 4294967295 := by have := Lm.lg_lt h.2.2.1 i; omega
    clear hcell
    go_enter Tryz.func66, Tryz.ntmps66
    go_wp2
    go_ret
    exact ⟨rfl, rfl⟩
  · have hz := Lib.hid (Lm.lg_out (l := l) (j := i) (by rw [h.1]; omega))
    go_enter Tryz.func66, Tryz.ntmps66
    go_wp2
    go_ret
    rw [hz.out]
    exact ⟨rfl, rfl⟩

set_option maxRecDepth 100000 in
set_option maxHeartbeats 800000 in
theorem size_any (w : World) (A B : Option Addr) (n c m d : Nat) (l k : List Nat) (h : Lim w A n c l) (hn : c ≤ maxLen) (h' : Lim w B m d k) (_hm : d ≤ maxLen) (hcl : Lm.Canon l) (hck : Lm.Canon k) :
    Calls Tryz.prog 63 #[.slice A n c, .slice B m d] w fun e w' => e = .returned (.int .i64 (Lm.cmpN (Lm.val l) (Lm.val k))) ∧ ∃ q, w' = w.drewN q := by
  unfold maxLen at hn _hm
  have hnc := h.2.1
  have hmd := h'.2.1
  have hll := Lib.hid h.1
  have hkk := Lib.hid h'.1
  by_cases hnm : n = m
  · subst hnm
    go_enter Tryz.func63, Tryz.ntmps63
    go_wp2
    go_loopw [5] (fun i w' => ∃ j : Nat, j ≤ n ∧ i = .int .i64 ((j : Int) - 1) ∧ (∃ q, w' = w.drewN q) ∧ Hid (∀ t, j ≤ t → t < n → Lm.lg l t = Lm.lg k t)) (fun i _ => (intOf i + 1).toNat)
    case atStart => exact ⟨n, Nat.le_refl _, rfl, ⟨0, rfl⟩, fun t h1 h2 => by omega⟩
    case round =>
      obtain ⟨j, hj, rfl, ⟨q, rfl⟩, hz⟩ := hrel
      by_cases h0 : j = 0
      · subst h0
        have e := Lm.eq_of_lg (hll.out.trans hkk.out.symm) (fun t ht => hz.out t (by omega) (by rw [← hll.out]; exact ht))
        have fin := Lib.hid (show Lm.cmpN (Lm.val l) (Lm.val k) = 0 by rw [e]; unfold Lm.cmpN; simp)
        clear e
        go_wp2
        go_ret
        rw [fin.out]
        exact ⟨rfl, q, rfl⟩
      · obtain ⟨b, o, rfl, hlt, hcell⟩ := h.2.2.2 (by omega)
        obtain ⟨b', o', rfl, hlt', hcell'⟩ := h'.2.2.2 (by omega)
        have hg := hcell (j - 1) (by omega)
        have hg' := hcell' (j - 1) (by omega)
        have hpos : (0 : Int) ≤ (j : Int) - 1 := by omega
        have hpos1 : (1 : Int) ≤ (j : Int) := by omega
        have hpos2 : (j : Int) - 1 < (n : Int) := by omega
        clear hcell hcell'
        rcases Nat.lt_trichotomy (Lm.lg l (j - 1)) (Lm.lg k (j - 1)) with hx | hx | hx
        · have hlt1 : decide (Lm.lg l (j - 1) < Lm.lg k (j - 1)) = true := by rw [decide_eq_true_iff]; exact hx
          have fin := Lib.hid (show Lm.cmpN (Lm.val l) (Lm.val k) = -1 by rw [cmp_top h.2.2.1 h'.2.2.1 (j - 1) (hll.out.trans hkk.out.symm) (by have := hll.out; omega) (fun t h1 h2 => hz.out t (by omega) (by have := hll.out; omega)) (by omega)]; unfold Lm.cmpN; rw [if_pos hx])
          go_wp2
          go_quiet (fail)
          go_wp2
          go_ret
          rw [fin.out]
          exact ⟨rfl, _, by rw [World.drewN_drewN]⟩
        · have hne1 : decide (Lm.lg l (j - 1) < Lm.lg k (j - 1)) = false := by rw [decide_eq_false_iff_not]; omega
          have hne2 : decide (Lm.lg k (j - 1) < Lm.lg l (j - 1)) = false := by rw [decide_eq_false_iff_not]; omega
          have hX := Lib.hid hx
          clear hx
          go_wp2
          go_quiet (fail)
          go_wp2
          go_quiet (fail)
          go_wp2
          go_roundw
          case rel => exact ⟨j - 1, by omega, by go_num, ⟨_, rfl⟩, fun t h1 h2 => by
            by_cases e : t = j - 1
            · rw [e]; exact hX.out
            · exact hz.out t (by omega) h2⟩
          case measure => simp [intOf]; omega
        · have hne1 : decide (Lm.lg l (j - 1) < Lm.lg k (j - 1)) = false := by rw [decide_eq_false_iff_not]; omega
          have hne2 : decide (Lm.lg k (j - 1) < Lm.lg l (j - 1)) = true := by rw [decide_eq_true_iff]; omega
          have fin := Lib.hid (show Lm.cmpN (Lm.val l) (Lm.val k) = 1 by rw [cmp_top h.2.2.1 h'.2.2.1 (j - 1) (hll.out.trans hkk.out.symm) (by have := hll.out; omega) (fun t h1 h2 => hz.out t (by omega) (by have := hll.out; omega)) (by omega)]; unfold Lm.cmpN; rw [if_neg (by omega), if_pos hx])
          go_wp2
          go_quiet (fail)
          go_wp2
          go_quiet (fail)
          go_wp2
          go_ret
          rw [fin.out]
          exact ⟨rfl, _, by rw [World.drewN_drewN, World.drewN_drewN]⟩
  · have hne : (((n : Nat) : Int) != ((m : Nat) : Int)) = true := by rw [bne_iff_ne]; omega
    have fin := Lib.hid (cmp_len h.2.2.1 h'.2.2.1 hcl hck (by rw [hll.out, hkk.out]; exact hnm))
    rcases Nat.lt_or_ge n m with hx | hx
    · have f2 := Lib.hid (show Lm.cmpN l.length k.length = -1 by rw [hll.out, hkk.out]; unfold Lm.cmpN; rw [if_pos hx])
      have hd : decide (n < m) = true := decide_eq_true hx
      go_enter Tryz.func63, Tryz.ntmps63
      go_wp2
      go_ret
      rw [fin.out, f2.out]
      exact ⟨rfl, 0, rfl⟩
    · have f2 := Lib.hid (show Lm.cmpN l.length k.length = 1 by rw [hll.out, hkk.out]; unfold Lm.cmpN; rw [if_neg (by omega), if_pos (by omega)])
      have hd : decide (n < m) = false := decide_eq_false (by omega)
      go_enter Tryz.func63, Tryz.ntmps63
      go_wp2
      go_ret
      rw [fin.out, f2.out]
      exact ⟨rfl, 0, rfl⟩

set_option maxRecDepth 100000 in
set_option maxHeartbeats 1000000 in
theorem fit_any (w : World) (g : Bool) (A : Option Addr) (n c : Nat) (l : List Nat) (h : Lim w A n c l) (hn : n ≤ 1000) (hc : c ≤ maxLen) :
    Calls Tryz.prog 60 #[.bool g, .slice A n c] w (OnePost w (sgn g (Lm.val l))) := by
  have hnc := h.2.1
  have hsm := h.2.2.1
  have hll := Lib.hid h.1
  have hb0 := (Below.refl w.heap.size w).alloc (Nat.le_refl _) (.cells #[.bool false, .slice none 0 0] 24)
  have hbx := Box.new w (.bool false) (.slice none 0 0)
  have hL := h.alloc (.cells #[.bool false, .slice none 0 0] 24)
  have hmx : c ≤ 9223372036854775807 := by unfold maxLen at hc; exact hc
  go_enter Tryz.func60, Tryz.ntmps60
  go_wp2
  generalize w.alloc (.cells #[.bool false, .slice none 0 0] 24) = W at *
  go_loop [5] (fun i => ∃ k : Nat, k ≤ n ∧ i = .int .i64 k ∧ Hid (∀ j, k ≤ j → j < l.length → l.getD j 0 = 0)) (fun i => (intOf i).toNat)
  case atStart => exact ⟨n, Nat.le_refl _, rfl, fun j h1 h2 => by have := hll.out; omega⟩
  case round =>
    obtain ⟨k, hk, rfl, hz⟩ := hrel
    by_cases h0 : k = 0
    · subst h0
      have fin := Lm.digits_prefix hsm 0 (by omega) hz.out (.inl rfl)
      have hv : Lm.val l = 0 := Lm.digits_eq_nil.1 (by rw [fin]; simp)
      have hs0 := Lib.hid (show sgn g (Lm.val l) = 0 by rw [hv]; cases g <;> rfl)
      clear fin hv
      have x0 := hbx.c0
      have x1 := hbx.c1
      have f0 := hbx.f0
      have f1 := hbx.f1
      go_wp2
      obtain ⟨hB, hNV, hbl⟩ := close_num (s := false) (A := none) (n := 0) (c := 0) (z := 0) (base := w.heap.size) (base' := w.heap.size) hbx (Nat.le_refl _) hb0 (Lib.hid rfl) (by rw [show (0 : Int).natAbs = 0 from rfl, Lm.digits_zero]; exact Own.nil _ _) (Nat.le_refl _)
      generalize (W.setCell ⟨w.heap.size, 0, none⟩ (.bool false)).setCell ⟨w.heap.size, 1, none⟩ (.slice none 0 0) = W2 at *
      have hy0 := hB.c0
      have hy1 := hB.c1
      refine bodyPost_ret (v := .agg #[.bool false, .slice none 0 0]) (by simp [results, Tryz.results60, go_sem, hy0, hy1]) rfl ?_
      rw [hs0.out]
      exact ⟨_, rfl, hNV, hbl⟩
    · obtain ⟨b, o, rfl, hlt, hcell⟩ := hL.2.2.2 (by omega)
      have hg := hcell (k - 1) (by omega)
      have hpos : (0 : Int) < (k : Int) := by omega
      have hh := Lib.hid hcell
      clear hcell
      by_cases hx : Lm.lg l (k - 1) = 0
      · rw [hx] at hg
        have hX := Lib.hid hx
        clear hx
        go_wp2
        go_round
        case rel => exact ⟨k - 1, by omega, by go_num, fun j h1 h2 => by
          by_cases e : j = k - 1
          · rw [e]; exact hX.out
          · exact hz.out j (by omega) h2⟩
        case measure => simp [intOf]; omega
      · have hx' : (((Lm.lg l (k - 1) : Nat) : Int) == 0) = false := by rw [beq_eq_false_iff_ne]; omega
        have hk0 : (((k : Nat) : Int) == 0) = false := by rw [beq_eq_false_iff_ne]; omega
        have fin := Lib.hid (Lm.digits_prefix hsm k (by rw [hll.out]; exact hk) hz.out (.inr hx))
        obtain ⟨A', c', w1, hrun, hO, hB0⟩ := append_lim W W.heap.size none 0 0 [] (Own.nil _ _) (some ⟨b, o, none⟩) k c (l.take k) (hL.take k hk) (by omega) (Nat.le_refl _) 22
        rw [Nat.zero_add, List.nil_append] at hO
        rw [Nat.zero_add] at hrun
        have hR := Lib.hid hrun
        clear hrun
        have r := hbx.below' hB0
        have x0 := r.c0
        have x1 := r.c1
        have f0 := r.f0
        have f1 := r.f1
        go_wp2_with (at_builtin; refine wpList_append_run rfl _ _ _ rfl _ _ _ rfl rfl hR.out ?_)
        have hsg : Hid (g = decide (sgn g (Lm.val l) < 0)) := by
          refine Lib.hid ?_
          have hne : Lm.val l ≠ 0 := fun e => by
            have := fin.out
            rw [e, Lm.digits_zero] at this
            have h2 := congrArg List.length this
            rw [List.length_take, hll.out] at h2
            simp at h2
            omega
          cases g <;> simp [sgn] <;> omega
        have hO2 : Own w1 W.heap.size A' k c' (Lm.digits (sgn g (Lm.val l)).natAbs) := by rw [natAbs_sgn, fin.out]; exact hO
        obtain ⟨hB, hNV, hbl⟩ := close_num (base' := w.heap.size) r (Nat.le_refl _) (hb0.trans (hB0.mono hb0.size)) hsg hO2 hb0.size
        generalize (w1.setCell ⟨w.heap.size, 0, none⟩ (.bool g)).setCell ⟨w.heap.size, 1, none⟩ (.slice A' k c') = W2 at *
        have hy0 := hB.c0
        have hy1 := hB.c1
        exact bodyPost_ret (v := .agg #[.bool g, .slice A' k c']) (by simp [results, Tryz.results60, go_sem, hy0, hy1]) rfl ⟨_, rfl, hNV, hbl⟩

end Go.Proofs.YtompimbeaeinbaaGreat

namespace Go.Proofs.YtompimbeaeinbaaGreat
open Go.RowKit

set_option maxRecDepth 100000 in
set_option maxHeartbeats 1000000 in
theorem refMayB_any (w : World) (base : Nat) (s : Bool) (A : Option Addr) (n c : Nat) (z : Int) (hs : Hid (s = decide (z < 0))) (ho : Own w base A n c (Lm.digits z.natAbs)) :
    Calls Tryz.prog 61 #[.agg #[.bool s, .slice A n c]] w (NumPostB w base (clip z) (fits z)) := by
  have htop : n ≤ 8 ↔ z.natAbs < Lm.top := by rw [← ho.2.1]; exact Lm.top_iff _
  have hT := Lib.hid htop
  clear htop
  by_cases h8 : n ≤ 8
  · have e1 := Lib.hid (clip_small (hT.out.1 h8))
    have e2 := Lib.hid (fits_small (hT.out.1 h8))
    go_enter Tryz.func61, Tryz.ntmps61
    go_wp2
    refine bodyPost_ret (v := .tuple #[.agg #[.bool s, .slice A n c], .bool true]) (by simp [results, Tryz.results61, go_sem]) rfl ?_
    rw [e1.out, e2.out]
    exact ⟨_, rfl, ⟨s, A, n, c, rfl, hs, ho.below (((Below.refl w.heap.size w).alloc (Nat.le_refl _) _).alloc (by simp) _)⟩, ((Below.refl w.heap.size w).alloc (Nat.le_refl _) _).alloc (by simp) _⟩
  · have hnot : ¬ z.natAbs < Lm.top := fun h => h8 (hT.out.2 h)
    have e1 := Lib.hid (show clip z = 0 from if_neg hnot)
    have e2 := Lib.hid (show fits z = false from decide_eq_false hnot)
    clear hnot
    go_enter Tryz.func61, Tryz.ntmps61
    go_wp2
    refine bodyPost_ret (v := .tuple #[.agg #[.bool false, .slice none 0 0], .bool false]) (by simp [results, Tryz.results61, go_sem]) rfl ?_
    rw [e1.out, e2.out]
    exact ⟨_, rfl, NumV.zero _ _, ((Below.refl w.heap.size w).alloc (Nat.le_refl _) _).alloc (by simp) _⟩

set_option maxRecDepth 100000 in
theorem val_snoc {t : List Nat} {j : Nat} (hl : t.length = j) (x : Nat) : Lm.val (t ++ [x]) = Lm.val t + 4294967296 ^ j * x := by
  rw [Lm.val_append, hl]; simp [Lm.val]
set_option maxRecDepth 100000 in
theorem add_snoc {t l k : List Nat} {j c : Nat} (hl : t.length = j) (h : Lm.val t + 4294967296 ^ j * c = Lm.val (l.take j) + Lm.val (k.take j)) :
    Lm.val (t ++ [(Lm.lg l j + Lm.lg k j + c) % 4294967296]) + 4294967296 ^ (j + 1) * ((Lm.lg l j + Lm.lg k j + c) / 4294967296) = Lm.val (l.take (j + 1)) + Lm.val (k.take (j + 1)) := by
  rw [val_snoc hl, Lm.val_take_succ l, Lm.val_take_succ k, Nat.pow_succ, Nat.mul_assoc]
  have e : (Lm.lg l j + Lm.lg k j + c) % 4294967296 + 4294967296 * ((Lm.lg l j + Lm.lg k j + c) / 4294967296) = Lm.lg l j + Lm.lg k j + c := Nat.mod_add_div _ _
  have e2 : 4294967296 ^ j * ((Lm.lg l j + Lm.lg k j + c) % 4294967296) + 4294967296 ^ j * (4294967296 * ((Lm.lg l j + Lm.lg k j + c) / 4294967296)) = 4294967296 ^ j * Lm.lg l j + 4294967296 ^ j * Lm.lg k j + 4294967296 ^ j * c := by
    rw [← Nat.mul_add, e, Nat.mul_add, Nat.mul_add]
  generalize 4294967296 ^ j * ((Lm.lg l j + Lm.lg k j + c) % 4294967296) = u at *
  generalize 4294967296 ^ j * (4294967296 * ((Lm.lg l j + Lm.lg k j + c) / 4294967296)) = v at *
  omega
set_option maxRecDepth 100000 in
theorem sub_snoc {t l k : List Nat} {j b x b' : Nat} (hl : t.length = j) (h : Lm.val (l.take j) + 4294967296 ^ j * b = Lm.val t + Lm.val (k.take j)) (hx : Lm.lg l j + 4294967296 * b' = x + Lm.lg k j + b) :
    Lm.val (l.take (j + 1)) + 4294967296 ^ (j + 1) * b' = Lm.val (t ++ [x]) + Lm.val (k.take (j + 1)) := by
  rw [val_snoc hl, Lm.val_take_succ l, Lm.val_take_succ k, Nat.pow_succ, Nat.mul_assoc]
  have e2 : 4294967296 ^ j * Lm.lg l j + 4294967296 ^ j * (4294967296 * b') = 4294967296 ^ j * x + 4294967296 ^ j * Lm.lg k j + 4294967296 ^ j * b := by
    rw [← Nat.mul_add, hx, Nat.mul_add, Nat.mul_add]
  generalize 4294967296 ^ j * (4294967296 * b') = v at *
  omega
set_option maxRecDepth 100000 in
theorem add_whole {t l k : List Nat} {N x : Nat} (hs : Lm.Small l) (hs' : Lm.Small k) (hl : l.length ≤ N) (hk : k.length ≤ N) (h : Lm.val t + 4294967296 ^ (N + 1) * x = Lm.val (l.take (N + 1)) + Lm.val (k.take (N + 1))) : Lm.val t = Lm.val l + Lm.val k := by
  rw [List.take_of_length_le (by omega), List.take_of_length_le (by omega)] at h
  have h1 : Lm.val l < 4294967296 ^ N := Nat.lt_of_lt_of_le (Lm.val_lt hs) (Nat.pow_le_pow_right (by decide) hl)
  have h2 : Lm.val k < 4294967296 ^ N := Nat.lt_of_lt_of_le (Lm.val_lt hs') (Nat.pow_le_pow_right (by decide) hk)
  have h3 : 4294967296 ^ (N + 1) = 4294967296 ^ N * 4294967296 := Nat.pow_succ ..
  generalize 4294967296 ^ (N + 1) = Q at *
  generalize 4294967296 ^ N = P at *
  generalize Lm.val l = u at *
  generalize Lm.val k = v at *
  generalize Lm.val t = y at *
  rcases Nat.eq_zero_or_pos x with h0 | h0
  · subst h0
    rw [Nat.mul_zero] at h
    omega
  · have h4 : Q * 1 ≤ Q * x := Nat.mul_le_mul_left _ h0
    generalize Q * x = q at *
    omega
set_option maxRecDepth 100000 in
theorem sub_whole {t l k : List Nat} {b : Nat} (hs : Lm.Small t) (ht : t.length = l.length) (hk : k.length ≤ l.length) (hle : Lm.val k ≤ Lm.val l)
    (h : Lm.val (l.take l.length) + 4294967296 ^ l.length * b = Lm.val t + Lm.val (k.take l.length)) : Lm.val t = Lm.val l - Lm.val k := by
  refine Lm.sub_end hs ht hk hle (b := b) ?_
  rw [List.take_of_length_le (l := t) (by omega)]
  exact h
set_option maxRecDepth 100000 in
theorem sub_wrap2 (a b x : Nat) (ha : a ≤ 4294967295) (hb : b ≤ 4294967295) (hx : x ≤ 1) :
    ∃ y b' : Nat, IntKind.u64.wrap (IntKind.u64.wrap ((a : Int) - b) - x) % 4294967296 = (y : Int) ∧ IntKind.u64.wrap (IntKind.u64.wrap ((a : Int) - b) - x) / 9223372036854775808 = (b' : Int) ∧ b' ≤ 1 ∧ y < 4294967296 ∧ a + 4294967296 * b' = y + b + x := by
  rw [IntKind.wrap_u64, IntKind.wrap_u64]
  refine ⟨((((a : Int) - b) % 18446744073709551616 - x) % 18446744073709551616 % 4294967296).toNat, ((((a : Int) - b) % 18446744073709551616 - x) % 18446744073709551616 / 9223372036854775808).toNat, ?_, ?_, ?_, ?_, ?_⟩ <;> omega
set_option maxRecDepth 100000 in
theorem arr_one (x : Nat) : (#[Value.int .u32 (x : Int)] : Array Value) = arr [x] := rfl
set_option maxRecDepth 100000 in
theorem one_small {x : Nat} (h : x < 4294967296) : Lm.Small [x] := by intro y hy; simp at hy; omega

set_option maxRecDepth 100000 in
/-- append(row, limb). -/
theorem append_one (w : World) (base : Nat) (A0 : Option Addr) (n0 c0 : Nat) (l0 : List Nat) (hown : Own w base A0 n0 c0 l0) (x : Nat) (hx : x < 4294967296) (hn : n0 + 1 ≤ 100000) (hbase : base ≤ w.heap.size) (ty : TypeId) :
    ∃ A' c' w', (Builtin.append_ #[22, 22] ty #[.slice A0 n0 c0, .slice (some ⟨w.heap.size, 0, none⟩) 1 1]).run Tryz.prog (w.alloc (.cells #[.int .u32 (x : Int)] 63)) = .ok (.slice A' (n0 + 1) c') w' ∧ Own w' base A' (n0 + 1) c' (l0 ++ [x]) ∧ Below base w w' := by
  have hA := (Below.refl w.heap.size w).alloc (Nat.le_refl _) (.cells #[.int .u32 (x : Int)] 63)
  obtain ⟨A', c', w', h1, h2, h3⟩ := append_lim (w.alloc (.cells #[.int .u32 (x : Int)] 63)) base A0 n0 c0 l0 (hown.below hA) (some ⟨w.heap.size, 0, none⟩) 1 1 [x] (Lim.new w [x] (one_small hx)) hn (Nat.le_trans hbase hA.size) ty
  exact ⟨A', c', w', h1, h2, (hA.mono hbase).trans h3⟩

set_option maxRecDepth 100000 in
set_option maxHeartbeats 1000000 in
theorem plus_any (w : World) (A B : Option Addr) (n c m d : Nat) (l k : List Nat) (hA : Lim w A n c l) (hn : n ≤ 1000) (hB : Lim w B m d k) (hm : m ≤ 1000) :
    Calls Tryz.prog 62 #[.slice A n c, .slice B m d] w (RowPost w (max n m + 1) (Lm.val l + Lm.val k)) := by
  have hll := Lib.hid hA.1
  have hkk := Lib.hid hB.1
  have hsl := hA.2.2.1
  have hsk := hB.2.2.1
  obtain ⟨N, hN⟩ : ∃ N, N = max n m := ⟨_, rfl⟩
  rw [← hN]
  have hN1 : n ≤ N := by omega
  have hN2 : m ≤ N := by omega
  have hN3 : N ≤ 1000 := by omega
  have HN := Lib.hid hN
  clear hN
  go_enter Tryz.func62, Tryz.ntmps62
  go_wp2
  go_loopw [5, 6, 7] (fun o u i w' => ∃ (j x : Nat) (A' : Option Addr) (c' : Nat) (t : List Nat), j ≤ N + 1 ∧ i = .int .i64 (j : Int) ∧ x ≤ 1 ∧ u = .int .u64 (x : Int) ∧ o = .slice A' j c' ∧ Own w' w.heap.size A' j c' t ∧ Below w.heap.size w w' ∧ Hid (Lm.val t + 4294967296 ^ j * x = Lm.val (l.take j) + Lm.val (k.take j))) (fun _ _ i _ => N + 1 - (intOf i).toNat)
  case atStart => exact ⟨0, 0, none, 0, [], Nat.zero_le _, rfl, by omega, rfl, rfl, Own.nil _ _, Below.refl _ _, Lib.hid (by simp [Lm.val])⟩
  case round =>
    obtain ⟨j, x, A', c', t, hj, rfl, hx, rfl, rfl, ho, hbl, hinv⟩ := hrel
    by_cases h0 : j ≤ N
    · have hl0 : Lm.lg l j ≤ 4294967295 := by have := Lm.lg_lt hsl j; omega
      have hk0 : Lm.lg k j ≤ 4294967295 := by have := Lm.lg_lt hsk j; omega
      rcases Nat.lt_or_ge n m with hmx | hmx
      · have hjm : decide (j ≤ m) = true := by rw [decide_eq_true_iff]; have := HN.out; omega
        go_wp2_with fail
        refine (at_any wr A n c l j (hA.below hbl) (by omega)).mono ?_
        rintro e w' ⟨rfl, rfl⟩
        go_wp2_with fail
        refine (at_any wr B m d k j (hB.below hbl) (by omega)).mono ?_
        rintro e w' ⟨rfl, rfl⟩
        obtain ⟨A2, c2, w2, hrun, hO2, hB2⟩ := append_one wr w.heap.size A' j c' t ho ((Lm.lg l j + Lm.lg k j + x) % 4294967296) (Nat.mod_lt _ (by decide)) (by omega) hbl.size 22
        rw [← cast3m] at hrun
        have hR := Lib.hid hrun
        clear hrun
        go_wp2_with (at_builtin; refine wpList_append_run rfl _ _ _ rfl _ _ _ rfl rfl hR.out ?_)
        rw [cast3d]
        exact ⟨⟨j + 1, _, A2, c2, _, by omega, by go_num, by omega, rfl, rfl, hO2, hbl.trans hB2, Lib.hid (add_snoc ho.2.1 hinv.out)⟩, by simp [intOf]; omega⟩
      · have hmx' : ¬ n < m := by omega
        have hjm : decide (j ≤ n) = true := by rw [decide_eq_true_iff]; have := HN.out; omega
        go_wp2_with fail
        refine (at_any wr A n c l j (hA.below hbl) (by omega)).mono ?_
        rintro e w' ⟨rfl, rfl⟩
        go_wp2_with fail
        refine (at_any wr B m d k j (hB.below hbl) (by omega)).mono ?_
        rintro e w' ⟨rfl, rfl⟩
        obtain ⟨A2, c2, w2, hrun, hO2, hB2⟩ := append_one wr w.heap.size A' j c' t ho ((Lm.lg l j + Lm.lg k j + x) % 4294967296) (Nat.mod_lt _ (by decide)) (by omega) hbl.size 22
        rw [← cast3m] at hrun
        have hR := Lib.hid hrun
        clear hrun
        go_wp2_with (at_builtin; refine wpList_append_run rfl _ _ _ rfl _ _ _ rfl rfl hR.out ?_)
        rw [cast3d]
        exact ⟨⟨j + 1, _, A2, c2, _, by omega, by go_num, by omega, rfl, rfl, hO2, hbl.trans hB2, Lib.hid (add_snoc ho.2.1 hinv.out)⟩, by simp [intOf]; omega⟩
    · have hjN : j = N + 1 := by omega
      subst hjN
      have fin := Lib.hid (add_whole hsl hsk (by rw [hll.out]; exact hN1) (by rw [hkk.out]; exact hN2) hinv.out)
      have hd1 : decide (N + 1 ≤ m) = false := by rw [decide_eq_false_iff_not]; omega
      have hd2 : decide (N + 1 ≤ n) = false := by rw [decide_eq_false_iff_not]; omega
      rcases Nat.lt_or_ge n m with hmx | hmx
      · go_wp2
        go_ret
        exact ⟨A', c', t, rfl, ho, fin.out, hbl⟩
      · have hmx' : ¬ n < m := by omega
        go_wp2
        go_ret
        exact ⟨A', c', t, rfl, ho, fin.out, hbl⟩

set_option maxRecDepth 100000 in
set_option maxHeartbeats 1000000 in
theorem minus_any (w : World) (A B : Option Addr) (n c m d : Nat) (l k : List Nat) (h : Lim w A n c l) (hn : n ≤ 1000) (h' : Lim w B m d k) (hmn : m ≤ n) (hle : Lm.val k ≤ Lm.val l) :
    Calls Tryz.prog 64 #[.slice A n c, .slice B m d] w (RowPost w n (Lm.val l - Lm.val k)) := by
  have hll := Lib.hid h.1
  have hkk := Lib.hid h'.1
  have hsl := h.2.2.1
  have hsk := h'.2.2.1
  go_enter Tryz.func64, Tryz.ntmps64
  go_wp2
  go_loopw [5, 6, 7] (fun o u i w' => ∃ (j x : Nat) (A' : Option Addr) (c' : Nat) (t : List Nat), j ≤ n ∧ i = .int .i64 (j : Int) ∧ x ≤ 1 ∧ u = .int .u64 (x : Int) ∧ o = .slice A' j c' ∧ Own w' w.heap.size A' j c' t ∧ Below w.heap.size w w' ∧ Hid (Lm.val (l.take j) + 4294967296 ^ j * x = Lm.val t + Lm.val (k.take j))) (fun _ _ i _ => n - (intOf i).toNat)
  case atStart => exact ⟨0, 0, none, 0, [], Nat.zero_le _, rfl, by omega, rfl, rfl, Own.nil _ _, Below.refl _ _, Lib.hid (by simp [Lm.val])⟩
  case round =>
    obtain ⟨j, x, A', c', t, hj, rfl, hx, rfl, rfl, ho, hbl, hinv⟩ := hrel
    by_cases h0 : j < n
    · have hl0 : Lm.lg l j ≤ 4294967295 := by have := Lm.lg_lt hsl j; omega
      have hk0 : Lm.lg k j ≤ 4294967295 := by have := Lm.lg_lt hsk j; omega
      go_wp2_with fail
      refine (at_any wr A n c l j (h.below hbl) (by omega)).mono ?_
      rintro e w' ⟨rfl, rfl⟩
      go_wp2_with fail
      refine (at_any wr B m d k j (h'.below hbl) (by omega)).mono ?_
      rintro e w' ⟨rfl, rfl⟩
      obtain ⟨y, b1, e1, e2, g1, g2, g3⟩ := sub_wrap2 (Lm.lg l j) (Lm.lg k j) x hl0 hk0 hx
      obtain ⟨A2, c2, w2, hrun, hO2, hB2⟩ := append_one wr w.heap.size A' j c' t ho y g2 (by omega) hbl.size 22
      rw [← e1] at hrun
      have hR := Lib.hid hrun
      have E2 := Lib.hid e2
      clear hrun e1 e2
      go_wp2_with (at_builtin; refine wpList_append_run rfl _ _ _ rfl _ _ _ rfl rfl hR.out ?_)
      rw [E2.out]
      exact ⟨⟨j + 1, b1, A2, c2, t ++ [y], by omega, by go_num, g1, rfl, rfl, hO2, hbl.trans hB2, Lib.hid (sub_snoc ho.2.1 hinv.out g3)⟩, by simp [intOf]; omega⟩
    · have hjn : j = n := by omega
      subst hjn
      have fin := Lib.hid (sub_whole (b := x) ho.1 (by rw [ho.2.1, hll.out]) (by rw [hll.out, hkk.out]; exact hmn) hle (by rw [hll.out]; exact hinv.out))
      go_wp2
      go_ret
      exact ⟨A', c', t, rfl, ho, fin.out, hbl⟩

end Go.Proofs.YtompimbeaeinbaaGreat

namespace Go.Proofs.YtompimbeaeinbaaGreat
open Go.RowKit

set_option maxRecDepth 100000 in
set_option maxHeartbeats 1000000 in
theorem refOf_neg (w : World) (z : Int) (h1 : -9223372036854775808 ≤ z) (h2 : z < 0) :
    Calls Tryz.prog 33 #[.int .i64 z] w (OnePost w z) := by
  obtain ⟨t, ht, htl, hts, htv⟩ := of_limbs_neg z h1 h2
  have hT := Lib.hid ht
  have hL := Lib.hid htl
  have hV := Lib.hid htv
  clear ht htl htv
  go_enter Tryz.func33, Tryz.ntmps33
  go_wp2_with fail
  rw [hT.out]
  have hb0 := ((Below.refl w.heap.size w).alloc (Nat.le_refl _) (.cells #[.bool false, .slice none 0 0] 24)).alloc (by simp) (.cells (arr t) 63)
  have hxr := (Box.new w (.bool false) (.slice none 0 0)).alloc (.cells (arr t) 63)
  have hown : Own ((w.alloc (.cells #[.bool false, .slice none 0 0] 24)).alloc (.cells (arr t) 63)) w.heap.size (some ⟨w.heap.size + 1, 0, none⟩) 2 2 t := by
    have := Own.new (w.alloc (.cells #[.bool false, .slice none 0 0] 24)) w.heap.size t hts (by simp) (by rw [hL.out]; decide)
    rw [hL.out] at this
    simpa using this
  generalize (w.alloc (.cells #[.bool false, .slice none 0 0] 24)).alloc (.cells (arr t) 63) = W at *
  refine (fit_any W true _ 2 2 t hown.lim (by decide) (by decide)).mono ?_
  have hzz : sgn true (Lm.val t) = z := by rw [hV.out]; unfold sgn; simp; omega
  rw [hzz]
  clear hzz
  rintro e w1 ⟨_, rfl, ⟨s1, A1, n1, c1, rfl, hs1, ho1⟩, hb⟩
  have r := hxr.below' hb
  have x0 := r.c0
  have x1 := r.c1
  have f0 := r.f0
  have f1 := r.f1
  go_wp2
  obtain ⟨hB, hNV, hbl⟩ := close_num (base' := w.heap.size) r (Nat.le_refl _) (hb0.trans (hb.mono hb0.size)) hs1 ho1 hb0.size
  generalize (w1.setCell ⟨w.heap.size, 0, none⟩ (.bool s1)).setCell ⟨w.heap.size, 1, none⟩ (.slice A1 n1 c1) = W2 at *
  have hy0 := hB.c0
  have hy1 := hB.c1
  exact bodyPost_ret (v := .agg #[.bool s1, .slice A1 n1 c1]) (by simp [results, Tryz.results33, go_sem, hy0, hy1]) rfl ⟨_, rfl, hNV, hbl⟩

set_option maxRecDepth 100000 in
set_option maxHeartbeats 1000000 in
theorem refOf_pos (w : World) (z : Int) (h1 : 0 ≤ z) (h2 : z ≤ 9223372036854775807) :
    Calls Tryz.prog 33 #[.int .i64 z] w (OnePost w z) := by
  obtain ⟨t, ht, htl, hts, htv⟩ := of_limbs_pos z h1 h2
  have hT := Lib.hid ht
  have hL := Lib.hid htl
  have hV := Lib.hid htv
  clear ht htl htv
  have hz0 : decide (z < 0) = false := by rw [decide_eq_false_iff_not]; omega
  go_enter Tryz.func33, Tryz.ntmps33
  go_wp2_with fail
  rw [hT.out]
  have hb0 := ((Below.refl w.heap.size w).alloc (Nat.le_refl _) (.cells #[.bool false, .slice none 0 0] 24)).alloc (by simp) (.cells (arr t) 63)
  have hxr := (Box.new w (.bool false) (.slice none 0 0)).alloc (.cells (arr t) 63)
  have hown : Own ((w.alloc (.cells #[.bool false, .slice none 0 0] 24)).alloc (.cells (arr t) 63)) w.heap.size (some ⟨w.heap.size + 1, 0, none⟩) 2 2 t := by
    have := Own.new (w.alloc (.cells #[.bool false, .slice none 0 0] 24)) w.heap.size t hts (by simp) (by rw [hL.out]; decide)
    rw [hL.out] at this
    simpa using this
  generalize (w.alloc (.cells #[.bool false, .slice none 0 0] 24)).alloc (.cells (arr t) 63) = W at *
  refine (fit_any W false _ 2 2 t hown.lim (by decide) (by decide)).mono ?_
  have hzz : sgn false (Lm.val t) = z := by rw [hV.out]; unfold sgn; simp; omega
  rw [hzz]
  clear hzz
  rintro e w1 ⟨_, rfl, ⟨s1, A1, n1, c1, rfl, hs1, ho1⟩, hb⟩
  have r := hxr.below' hb
  have x0 := r.c0
  have x1 := r.c1
  have f0 := r.f0
  have f1 := r.f1
  go_wp2
  obtain ⟨hB, hNV, hbl⟩ := close_num (base' := w.heap.size) r (Nat.le_refl _) (hb0.trans (hb.mono hb0.size)) hs1 ho1 hb0.size
  generalize (w1.setCell ⟨w.heap.size, 0, none⟩ (.bool s1)).setCell ⟨w.heap.size, 1, none⟩ (.slice A1 n1 c1) = W2 at *
  have hy0 := hB.c0
  have hy1 := hB.c1
  exact bodyPost_ret (v := .agg #[.bool s1, .slice A1 n1 c1]) (by simp [results, Tryz.results33, go_sem, hy0, hy1]) rfl ⟨_, rfl, hNV, hbl⟩

set_option maxRecDepth 100000 in
theorem refOf_any (w : World) (z : Int) (h1 : -9223372036854775808 ≤ z) (h2 : z ≤ 9223372036854775807) : Calls Tryz.prog 33 #[.int .i64 z] w (OnePost w z) := by
  rcases Int.lt_or_le z 0 with h | h
  · exact refOf_neg w z h1 h
  · exact refOf_pos w z h h2

set_option maxRecDepth 100000 in
set_option maxHeartbeats 1000000 in
theorem refNeg_no (w : World) (g : Bool) (A : Option Addr) (n c : Nat) (l : List Nat) (h : Raw w A n c l) (hm : mayB g l = false) :
    Calls Tryz.prog 65 #[.agg #[.bool g, .slice A n c]] w (OnePost w 0) := by
  go_enter Tryz.func65, Tryz.ntmps65
  go_wp2_with fail
  have hb0 := ((Below.refl w.heap.size w).alloc (Nat.le_refl _) (.cells #[.bool g, .slice A n c] 24)).alloc (by simp) (.cells #[.bool false, .slice none 0 0] 24)
  have hxr := Box.new (w.alloc (.cells #[.bool g, .slice A n c] 24)) (.bool false) (.slice none 0 0)
  simp only [World.size_alloc] at hxr
  have hAA := h.below hb0
  generalize (w.alloc (.cells #[.bool g, .slice A n c] 24)).alloc (.cells #[.bool false, .slice none 0 0] 24) = W at *
  refine (refMay_b W g A n c l hAA).mono ?_
  rintro e w1 ⟨rfl, hb1⟩
  have yr := hxr.below' hb1
  replace hb0 := hb0.trans (hb1.mono hb0.size)
  have z0 := yr.c0
  have z1 := yr.c1
  have z2 := yr.f0
  have z3 := yr.f1
  go_wp2
  obtain ⟨hB, hNV, hbl⟩ := close_num (s := false) (A := none) (n := 0) (c := 0) (z := 0) (base := w.heap.size) (base' := w.heap.size) yr (by omega) hb0 (Lib.hid rfl) (by rw [show (0 : Int).natAbs = 0 from rfl, Lm.digits_zero]; exact Own.nil _ _) (Nat.le_refl _)
  generalize (w1.setCell ⟨w.heap.size + 1, 0, none⟩ (.bool false)).setCell ⟨w.heap.size + 1, 1, none⟩ (.slice none 0 0) = W2 at *
  have hy0 := hB.c0
  have hy1 := hB.c1
  exact bodyPost_ret (v := .agg #[.bool false, .slice none 0 0]) (by simp [results, Tryz.results65, go_sem, hy0, hy1]) rfl ⟨_, rfl, hNV, hbl⟩

set_option maxRecDepth 100000 in
set_option maxHeartbeats 1000000 in
theorem refNeg_yes (w : World) (g : Bool) (A : Option Addr) (n c : Nat) (l : List Nat) (h : Raw w A n c l) (hm : mayB g l = true) :
    Calls Tryz.prog 65 #[.agg #[.bool g, .slice A n c]] w (OnePost w (-(sgn g (Lm.val l)))) := by
  have hlen : n ≤ 1000 := by have := mayB_len hm; rw [h.1.1] at this; omega
  go_enter Tryz.func65, Tryz.ntmps65
  go_wp2_with fail
  have hb0 := ((Below.refl w.heap.size w).alloc (Nat.le_refl _) (.cells #[.bool g, .slice A n c] 24)).alloc (by simp) (.cells #[.bool false, .slice none 0 0] 24)
  have hxa := (Box.new w (.bool g) (.slice A n c)).alloc (.cells #[.bool false, .slice none 0 0] 24)
  have hxr := Box.new (w.alloc (.cells #[.bool g, .slice A n c] 24)) (.bool false) (.slice none 0 0)
  simp only [World.size_alloc] at hxr
  have hAA := h.below hb0
  generalize (w.alloc (.cells #[.bool g, .slice A n c] 24)).alloc (.cells #[.bool false, .slice none 0 0] 24) = W at *
  refine (refMay_b W g A n c l hAA).mono ?_
  rintro e w1 ⟨rfl, hb1⟩
  have ya := hxa.below' hb1
  have yr := hxr.below' hb1
  replace hAA := hAA.below hb1
  replace hb0 := hb0.trans (hb1.mono hb0.size)
  clear hxa hxr hb1
  have x1 := ya.c0
  have x2 := ya.c1
  go_wp2_with fail
  refine (fit_any w1 (!g) A n c l hAA.1 hlen hAA.2).mono ?_
  rw [sgn_not]
  rintro e w4 ⟨_, rfl, ⟨s2, A2, n2, c2, rfl, hs2, ho2⟩, hb2⟩
  have tr := yr.below' hb2
  have z0 := tr.c0
  have z1 := tr.c1
  have z2 := tr.f0
  have z3 := tr.f1
  go_wp2
  have hsz := hb0.size
  obtain ⟨hB, hNV, hbl⟩ := close_num (base' := w.heap.size) tr (by omega) (hb0.trans (hb2.mono hsz)) hs2 ho2 hsz
  generalize (w4.setCell ⟨w.heap.size + 1, 0, none⟩ (.bool s2)).setCell ⟨w.heap.size + 1, 1, none⟩ (.slice A2 n2 c2) = W2 at *
  have hy0 := hB.c0
  have hy1 := hB.c1
  exact bodyPost_ret (v := .agg #[.bool s2, .slice A2 n2 c2]) (by simp [results, Tryz.results65, go_sem, hy0, hy1]) rfl ⟨_, rfl, hNV, hbl⟩

set_option maxRecDepth 100000 in
set_option maxHeartbeats 1000000 in
theorem refAdd_no1 (w : World) (g g' : Bool) (A B : Option Addr) (n c m d : Nat) (l k : List Nat) (h : Raw w A n c l) (h' : Raw w B m d k) (hm : mayB g l = false) : Calls Tryz.prog 34 #[.agg #[.bool g, .slice A n c], .agg #[.bool g', .slice B m d]] w (NumPost w 0 false) := by
  go_enter Tryz.func34, Tryz.ntmps34
  go_wp2_with fail
  have hb0 := (((Below.refl w.heap.size w).alloc (Nat.le_refl _) (.cells #[.bool g, .slice A n c] 24)).alloc (by simp) (.cells #[.bool g', .slice B m d] 24)).alloc (by simp; omega) (.cells #[.bool false, .slice none 0 0] 24)
  have hxa := ((Box.new w (.bool g) (.slice A n c)).alloc (.cells #[.bool g', .slice B m d] 24)).alloc (.cells #[.bool false, .slice none 0 0] 24)
  have hxb := (Box.new (w.alloc (.cells #[.bool g, .slice A n c] 24)) (.bool g') (.slice B m d)).alloc (.cells #[.bool false, .slice none 0 0] 24)
  have hxr := Box.new ((w.alloc (.cells #[.bool g, .slice A n c] 24)).alloc (.cells #[.bool g', .slice B m d] 24)) (.bool false) (.slice none 0 0)
  simp only [World.size_alloc] at hxb hxr
  have hAA := h.below hb0
  have hBB := h'.below hb0
  generalize ((w.alloc (.cells #[.bool g, .slice A n c] 24)).alloc (.cells #[.bool g', .slice B m d] 24)).alloc (.cells #[.bool false, .slice none 0 0] 24) = W at *
  have x1 := hxa.c0
  have x2 := hxa.c1
  refine (refMay_b W g A n c l hAA).mono ?_
  rintro e w1 ⟨rfl, hb1⟩
  have ya := hxa.below' hb1
  have yb := hxb.below' hb1
  have yr := hxr.below' hb1
  replace hAA := hAA.below hb1
  replace hBB := hBB.below hb1
  replace hb0 := hb0.trans (hb1.mono hb0.size)
  clear hxa hxb hxr x1 x2 hb1
  have x1 := ya.c0
  have x2 := ya.c1
  have x3 := yb.c0
  have x4 := yb.c1
  have z0 := yr.c0
  have z1 := yr.c1
  have z2 := yr.f0
  have z3 := yr.f1
  go_wp2
  obtain ⟨hB, hNV, hbl⟩ := close_num (s := false) (A := none) (n := 0) (c := 0) (z := 0) (base := w.heap.size) (base' := w.heap.size) yr (by omega) hb0 (Lib.hid rfl) (by rw [show (0 : Int).natAbs = 0 from rfl, Lm.digits_zero]; exact Own.nil _ _) (Nat.le_refl _)
  generalize (w1.setCell ⟨w.heap.size + 1 + 1, 0, none⟩ (.bool false)).setCell ⟨w.heap.size + 1 + 1, 1, none⟩ (.slice none 0 0) = W2 at *
  have hy0 := hB.c0
  have hy1 := hB.c1
  exact bodyPost_ret (v := .tuple #[.agg #[.bool false, .slice none 0 0], .bool false]) (by simp [results, Tryz.results34, go_sem, hy0, hy1]) rfl ⟨_, rfl, hNV, hbl⟩

set_option maxRecDepth 100000 in
set_option maxHeartbeats 1000000 in
theorem refAdd_no2 (w : World) (g g' : Bool) (A B : Option Addr) (n c m d : Nat) (l k : List Nat) (h : Raw w A n c l) (h' : Raw w B m d k) (hm : mayB g l = true) (hm' : mayB g' k = false) : Calls Tryz.prog 34 #[.agg #[.bool g, .slice A n c], .agg #[.bool g', .slice B m d]] w (NumPost w 0 false) := by
  go_enter Tryz.func34, Tryz.ntmps34
  go_wp2_with fail
  have hb0 := (((Below.refl w.heap.size w).alloc (Nat.le_refl _) (.cells #[.bool g, .slice A n c] 24)).alloc (by simp) (.cells #[.bool g', .slice B m d] 24)).alloc (by simp; omega) (.cells #[.bool false, .slice none 0 0] 24)
  have hxa := ((Box.new w (.bool g) (.slice A n c)).alloc (.cells #[.bool g', .slice B m d] 24)).alloc (.cells #[.bool false, .slice none 0 0] 24)
  have hxb := (Box.new (w.alloc (.cells #[.bool g, .slice A n c] 24)) (.bool g') (.slice B m d)).alloc (.cells #[.bool false, .slice none 0 0] 24)
  have hxr := Box.new ((w.alloc (.cells #[.bool g, .slice A n c] 24)).alloc (.cells #[.bool g', .slice B m d] 24)) (.bool false) (.slice none 0 0)
  simp only [World.size_alloc] at hxb hxr
  have hAA := h.below hb0
  have hBB := h'.below hb0
  generalize ((w.alloc (.cells #[.bool g, .slice A n c] 24)).alloc (.cells #[.bool g', .slice B m d] 24)).alloc (.cells #[.bool false, .slice none 0 0] 24) = W at *
  have x1 := hxa.c0
  have x2 := hxa.c1
  refine (refMay_b W g A n c l hAA).mono ?_
  rintro e w1 ⟨rfl, hb1⟩
  have ya := hxa.below' hb1
  have yb := hxb.below' hb1
  have yr := hxr.below' hb1
  replace hAA := hAA.below hb1
  replace hBB := hBB.below hb1
  replace hb0 := hb0.trans (hb1.mono hb0.size)
  clear hxa hxb hxr x1 x2 hb1
  have x1 := ya.c0
  have x2 := ya.c1
  have x3 := yb.c0
  have x4 := yb.c1
  go_wp2_with fail
  refine (refMay_b w1 g' B m d k hBB).mono ?_
  rintro e w2 ⟨rfl, hb2⟩
  have za := ya.below' hb2
  have zb := yb.below' hb2
  have zr := yr.below' hb2
  replace hAA := hAA.below hb2
  replace hBB := hBB.below hb2
  replace hb0 := hb0.trans (hb2.mono hb0.size)
  clear ya yb yr x1 x2 x3 x4 hb2
  have x1 := za.c0
  have x2 := za.c1
  have x3 := zb.c0
  have x4 := zb.c1
  have z0 := zr.c0
  have z1 := zr.c1
  have z2 := zr.f0
  have z3 := zr.f1
  go_wp2
  obtain ⟨hB, hNV, hbl⟩ := close_num (s := false) (A := none) (n := 0) (c := 0) (z := 0) (base := w.heap.size) (base' := w.heap.size) zr (by omega) hb0 (Lib.hid rfl) (by rw [show (0 : Int).natAbs = 0 from rfl, Lm.digits_zero]; exact Own.nil _ _) (Nat.le_refl _)
  generalize (w2.setCell ⟨w.heap.size + 1 + 1, 0, none⟩ (.bool false)).setCell ⟨w.heap.size + 1 + 1, 1, none⟩ (.slice none 0 0) = W2 at *
  have hy0 := hB.c0
  have hy1 := hB.c1
  exact bodyPost_ret (v := .tuple #[.agg #[.bool false, .slice none 0 0], .bool false]) (by simp [results, Tryz.results34, go_sem, hy0, hy1]) rfl ⟨_, rfl, hNV, hbl⟩

set_option maxRecDepth 100000 in
theorem plus_row (w : World) (A B : Option Addr) (n c m d va vb : Nat) (h : Arg w A n c va) (h' : Arg w B m d vb) :
    Calls Tryz.prog 62 #[.slice A n c, .slice B m d] w (RowPost w (max n m + 1) (va + vb)) := by
  have := plus_any w A B n c m d _ _ h.1 h.2.2 h'.1 h'.2.2
  rwa [Lm.val_digits, Lm.val_digits] at this
set_option maxRecDepth 100000 in
theorem minus_row (w : World) (A B : Option Addr) (n c m d va vb : Nat) (h : Arg w A n c va) (h' : Arg w B m d vb) (hle : vb ≤ va) :
    Calls Tryz.prog 64 #[.slice A n c, .slice B m d] w (RowPost w n (va - vb)) := by
  have := minus_any w A B n c m d _ _ h.1 h.2.2 h'.1 (by
      rw [← h.1.1, ← h'.1.1]
      exact (Lm.digits_length vb _).2 (Nat.lt_of_le_of_lt hle ((Lm.digits_length va _).1 (Nat.le_refl _)))) (by rw [Lm.val_digits, Lm.val_digits]; exact hle)
  rwa [Lm.val_digits, Lm.val_digits] at this
set_option maxRecDepth 100000 in
theorem fit_row (w : World) (base : Nat) (g : Bool) (A : Option Addr) (n c : Nat) (t : List Nat) (v : Nat) (h : Own w base A n c t) (hn : n ≤ 1000) (hv : Lm.val t = v) :
    Calls Tryz.prog 60 #[.bool g, .slice A n c] w (OnePost w (sgn g v)) := by
  rw [← hv]
  exact fit_any w g A n c t h.lim hn h.cap.2

set_option maxRecDepth 100000 in
set_option maxHeartbeats 2000000 in
theorem refAdd_same (w : World) (g g' : Bool) (A B : Option Addr) (n c m d : Nat) (l k : List Nat) (h : Raw w A n c l) (h' : Raw w B m d k) (hm : mayB g l = true) (hm' : mayB g' k = true) (hg : g = g') :
    Calls Tryz.prog 34 #[.agg #[.bool g, .slice A n c], .agg #[.bool g', .slice B m d]] w (NumPost w (clip (sgn g (Lm.val l + Lm.val k))) (fits (sgn g (Lm.val l + Lm.val k)))) := by
  subst hg
  have hn8 : n ≤ 8 := by have := mayB_len hm; rw [h.1.1] at this; exact this
  have hm8 : m ≤ 8 := by have := mayB_len hm'; rw [h'.1.1] at this; exact this
  go_enter Tryz.func34, Tryz.ntmps34
  go_wp2_with fail
  have hb0 := (((Below.refl w.heap.size w).alloc (Nat.le_refl _) (.cells #[.bool g, .slice A n c] 24)).alloc (by simp) (.cells #[.bool g, .slice B m d] 24)).alloc (by simp; omega) (.cells #[.bool false, .slice none 0 0] 24)
  have hxa := ((Box.new w (.bool g) (.slice A n c)).alloc (.cells #[.bool g, .slice B m d] 24)).alloc (.cells #[.bool false, .slice none 0 0] 24)
  have hxb := (Box.new (w.alloc (.cells #[.bool g, .slice A n c] 24)) (.bool g) (.slice B m d)).alloc (.cells #[.bool false, .slice none 0 0] 24)
  have hxr := Box.new ((w.alloc (.cells #[.bool g, .slice A n c] 24)).alloc (.cells #[.bool g, .slice B m d] 24)) (.bool false) (.slice none 0 0)
  simp only [World.size_alloc] at hxb hxr
  have hAA := h.below hb0
  have hBB := h'.below hb0
  generalize ((w.alloc (.cells #[.bool g, .slice A n c] 24)).alloc (.cells #[.bool g, .slice B m d] 24)).alloc (.cells #[.bool false, .slice none 0 0] 24) = W at *
  have x1 := hxa.c0
  have x2 := hxa.c1
  refine (refMay_b W g A n c l hAA).mono ?_
  rintro e w1 ⟨rfl, hb1⟩
  have ya := hxa.below' hb1
  have yb := hxb.below' hb1
  have yr := hxr.below' hb1
  replace hAA := hAA.below hb1
  replace hBB := hBB.below hb1
  replace hb0 := hb0.trans (hb1.mono hb0.size)
  clear hxa hxb hxr x1 x2 hb1
  have x1 := ya.c0
  have x2 := ya.c1
  have x3 := yb.c0
  have x4 := yb.c1
  go_wp2_with fail
  refine (refMay_b w1 g B m d k hBB).mono ?_
  rintro e w2 ⟨rfl, hb2⟩
  have za := ya.below' hb2
  have zb := yb.below' hb2
  have zr := yr.below' hb2
  replace hAA := hAA.below hb2
  replace hBB := hBB.below hb2
  replace hb0 := hb0.trans (hb2.mono hb0.size)
  clear ya yb yr x1 x2 x3 x4 hb2
  have x1 := za.c0
  have x2 := za.c1
  have x3 := zb.c0
  have x4 := zb.c1
  have aA := hAA.arg hm
  have aB := hBB.arg hm'
  go_wp2
  have ne1 : w.heap.size ≠ w.heap.size + 1 + 1 := by omega
  have ne2 : w.heap.size + 1 ≠ w.heap.size + 1 + 1 := by omega
  go_region_held3 (fun w' => w'.cell? ⟨w.heap.size, 0, none⟩ = some (.bool g) ∧ w'.cell? ⟨w.heap.size, 1, none⟩ = some (.slice A n c) ∧ w'.cell? ⟨w.heap.size + 1, 0, none⟩ = some (.bool g) ∧ w'.cell? ⟨w.heap.size + 1, 1, none⟩ = some (.slice B m d))
    (first | exact ⟨x1, x2, x3, x4⟩ | exact ⟨ua.c0, ua.c1, ub.c0, ub.c1⟩ | exact ⟨ta.c0, ta.c1, tb.c0, tb.c1⟩ | exact ⟨sa.c0, sa.c1, sb.c0, sb.c1⟩ | exact ⟨((sa.far (p := ⟨w.heap.size + 1 + 1, 0, none⟩) ne1 _).far (p := ⟨w.heap.size + 1 + 1, 1, none⟩) ne1 _).c0, ((sa.far (p := ⟨w.heap.size + 1 + 1, 0, none⟩) ne1 _).far (p := ⟨w.heap.size + 1 + 1, 1, none⟩) ne1 _).c1, ((sb.far (p := ⟨w.heap.size + 1 + 1, 0, none⟩) ne2 _).far (p := ⟨w.heap.size + 1 + 1, 1, none⟩) ne2 _).c0, ((sb.far (p := ⟨w.heap.size + 1 + 1, 0, none⟩) ne2 _).far (p := ⟨w.heap.size + 1 + 1, 1, none⟩) ne2 _).c1⟩)
    (first
      | (go_at_call 62; refine (plus_row _ A B n c m d (Lm.val l) (Lm.val k) (by exact aA) (by exact aB)).mono ?_; rintro e w3 ⟨A1, c1, t, rfl, ho1, hv1, hb1⟩; have ua := Box.below' (w := w2.drew) za hb1; have ub := Box.below' (w := w2.drew) zb hb1; have ur := Box.below' (w := w2.drew) zr hb1; have Hv1 := Lib.hid hv1; clear hv1)
      | (go_at_call 60; refine (fit_row _ _ g A1 _ c1 t _ (by exact ho1) (by omega) (by exact Hv1.out)).mono ?_; rintro e w4 ⟨_, rfl, ⟨s3, A3, n3, c3, rfl, hs3, ho3⟩, hb2⟩; have ta := ua.below' hb2; have tb := ub.below' hb2; have tr := ur.below' hb2)
      | (go_at_call 61; refine (refMayB_any _ _ s3 A3 n3 c3 _ hs3 (by exact ho3)).mono ?_; rintro e w5 ⟨_, rfl, ⟨s2, A2, n2, c2, rfl, hs2, ho2⟩, hb3⟩; have sa := ta.below' hb3; have sb := tb.below' hb3; have sr := tr.below' hb3; have z0 := sr.c0; have z1 := sr.c1; have z2 := sr.f0; have z3 := sr.f1))
  go_wp2
  have hsz := hb0.size
  have bq := ((Below.drew (Below.refl _ w2)).trans (hb1.mono (by simpa using hsz))).trans (hb2.mono (by have := hb1.size; simp at this; omega))
  obtain ⟨hB, hNV, hbl⟩ := close_num (base' := w.heap.size) sr (by omega) (hb0.trans (bq.trans (hb3.mono (by have h1 := hb1.size; have h2 := hb2.size; simp at h1; omega)))) hs2 ho2 (by have h1 := hb1.size; simp at h1; omega)
  generalize (w5.setCell ⟨w.heap.size + 1 + 1, 0, none⟩ (.bool s2)).setCell ⟨w.heap.size + 1 + 1, 1, none⟩ (.slice A2 n2 c2) = W2 at *
  have hy0 := hB.c0
  have hy1 := hB.c1
  skip
  exact bodyPost_ret (v := .tuple #[.agg #[.bool s2, .slice A2 n2 c2], .bool (fits (sgn g (Lm.val l + Lm.val k)))]) (by simp [results, Tryz.results34, go_sem, hy0, hy1]) rfl ⟨_, rfl, hNV, hbl⟩

set_option maxRecDepth 100000 in
set_option maxHeartbeats 2000000 in
theorem refAdd_more (w : World) (g g' : Bool) (A B : Option Addr) (n c m d : Nat) (l k : List Nat) (h : Raw w A n c l) (h' : Raw w B m d k) (hm : mayB g l = true) (hm' : mayB g' k = true) (hg : g ≠ g') (hlt : Lm.val k ≤ Lm.val l) :
    Calls Tryz.prog 34 #[.agg #[.bool g, .slice A n c], .agg #[.bool g', .slice B m d]] w (NumPost w (clip (sgn g (Lm.val l - Lm.val k))) (fits (sgn g (Lm.val l - Lm.val k)))) := by
  have hgg : (g == g') = false := by simpa using hg
  have HL := Lib.hid hlt
  have hcm : decide (0 ≤ Lm.cmpN (Lm.val l) (Lm.val k)) = true := by rw [decide_eq_true_iff]; have := (Lm.cmpN_lt (a := Lm.val l) (b := Lm.val k)); omega
  clear hlt
  have hn8 : n ≤ 8 := by have := mayB_len hm; rw [h.1.1] at this; exact this
  have hm8 : m ≤ 8 := by have := mayB_len hm'; rw [h'.1.1] at this; exact this
  go_enter Tryz.func34, Tryz.ntmps34
  go_wp2_with fail
  have hb0 := (((Below.refl w.heap.size w).alloc (Nat.le_refl _) (.cells #[.bool g, .slice A n c] 24)).alloc (by simp) (.cells #[.bool g', .slice B m d] 24)).alloc (by simp; omega) (.cells #[.bool false, .slice none 0 0] 24)
  have hxa := ((Box.new w (.bool g) (.slice A n c)).alloc (.cells #[.bool g', .slice B m d] 24)).alloc (.cells #[.bool false, .slice none 0 0] 24)
  have hxb := (Box.new (w.alloc (.cells #[.bool g, .slice A n c] 24)) (.bool g') (.slice B m d)).alloc (.cells #[.bool false, .slice none 0 0] 24)
  have hxr := Box.new ((w.alloc (.cells #[.bool g, .slice A n c] 24)).alloc (.cells #[.bool g', .slice B m d] 24)) (.bool false) (.slice none 0 0)
  simp only [World.size_alloc] at hxb hxr
  have hAA := h.below hb0
  have hBB := h'.below hb0
  generalize ((w.alloc (.cells #[.bool g, .slice A n c] 24)).alloc (.cells #[.bool g', .slice B m d] 24)).alloc (.cells #[.bool false, .slice none 0 0] 24) = W at *
  have x1 := hxa.c0
  have x2 := hxa.c1
  refine (refMay_b W g A n c l hAA).mono ?_
  rintro e w1 ⟨rfl, hb1⟩
  have ya := hxa.below' hb1
  have yb := hxb.below' hb1
  have yr := hxr.below' hb1
  replace hAA := hAA.below hb1
  replace hBB := hBB.below hb1
  replace hb0 := hb0.trans (hb1.mono hb0.size)
  clear hxa hxb hxr x1 x2 hb1
  have x1 := ya.c0
  have x2 := ya.c1
  have x3 := yb.c0
  have x4 := yb.c1
  go_wp2_with fail
  refine (refMay_b w1 g' B m d k hBB).mono ?_
  rintro e w2 ⟨rfl, hb2⟩
  have za := ya.below' hb2
  have zb := yb.below' hb2
  have zr := yr.below' hb2
  replace hAA := hAA.below hb2
  replace hBB := hBB.below hb2
  replace hb0 := hb0.trans (hb2.mono hb0.size)
  clear ya yb yr x1 x2 x3 x4 hb2
  have x1 := za.c0
  have x2 := za.c1
  have x3 := zb.c0
  have x4 := zb.c1
  have aA := hAA.arg hm
  have aB := hBB.arg hm'
  go_wp2_with fail
  refine (size_any w2 A B n c m d l k hAA.1 hAA.2 hBB.1 hBB.2 (mayB_canon hm) (mayB_canon hm')).mono ?_
  rintro e wq ⟨rfl, qq, rfl⟩
  replace hb0 := hb0.drewN' qq
  replace za := za.drewN qq
  replace zb := zb.drewN qq
  replace zr := zr.drewN qq
  replace aA := aA.drewN qq
  replace aB := aB.drewN qq
  clear hAA hBB x1 x2 x3 x4
  generalize w2.drewN qq = w2 at *
  have x1 := za.c0
  have x2 := za.c1
  have x3 := zb.c0
  have x4 := zb.c1
  go_wp2
  have ne1 : w.heap.size ≠ w.heap.size + 1 + 1 := by omega
  have ne2 : w.heap.size + 1 ≠ w.heap.size + 1 + 1 := by omega
  go_region_held3 (fun w' => w'.cell? ⟨w.heap.size, 0, none⟩ = some (.bool g) ∧ w'.cell? ⟨w.heap.size, 1, none⟩ = some (.slice A n c) ∧ w'.cell? ⟨w.heap.size + 1, 0, none⟩ = some (.bool g') ∧ w'.cell? ⟨w.heap.size + 1, 1, none⟩ = some (.slice B m d))
    (first | exact ⟨x1, x2, x3, x4⟩ | exact ⟨ua.c0, ua.c1, ub.c0, ub.c1⟩ | exact ⟨ta.c0, ta.c1, tb.c0, tb.c1⟩ | exact ⟨sa.c0, sa.c1, sb.c0, sb.c1⟩ | exact ⟨((sa.far (p := ⟨w.heap.size + 1 + 1, 0, none⟩) ne1 _).far (p := ⟨w.heap.size + 1 + 1, 1, none⟩) ne1 _).c0, ((sa.far (p := ⟨w.heap.size + 1 + 1, 0, none⟩) ne1 _).far (p := ⟨w.heap.size + 1 + 1, 1, none⟩) ne1 _).c1, ((sb.far (p := ⟨w.heap.size + 1 + 1, 0, none⟩) ne2 _).far (p := ⟨w.heap.size + 1 + 1, 1, none⟩) ne2 _).c0, ((sb.far (p := ⟨w.heap.size + 1 + 1, 0, none⟩) ne2 _).far (p := ⟨w.heap.size + 1 + 1, 1, none⟩) ne2 _).c1⟩)
    (first
      | (go_at_call 64; refine (minus_row _ A B n c m d (Lm.val l) (Lm.val k) (by exact aA) (by exact aB) HL.out).mono ?_; rintro e w3 ⟨A1, c1, t, rfl, ho1, hv1, hb1⟩; have ua := Box.below' (w := w2.drew) za hb1; have ub := Box.below' (w := w2.drew) zb hb1; have ur := Box.below' (w := w2.drew) zr hb1; have Hv1 := Lib.hid hv1; clear hv1)
      | (go_at_call 60; refine (fit_row _ _ g A1 _ c1 t _ (by exact ho1) (by omega) (by exact Hv1.out)).mono ?_; rintro e w4 ⟨_, rfl, ⟨s3, A3, n3, c3, rfl, hs3, ho3⟩, hb2⟩; have ta := ua.below' hb2; have tb := ub.below' hb2; have tr := ur.below' hb2)
      | (go_at_call 61; refine (refMayB_any _ _ s3 A3 n3 c3 _ hs3 (by exact ho3)).mono ?_; rintro e w5 ⟨_, rfl, ⟨s2, A2, n2, c2, rfl, hs2, ho2⟩, hb3⟩; have sa := ta.below' hb3; have sb := tb.below' hb3; have sr := tr.below' hb3; have z0 := sr.c0; have z1 := sr.c1; have z2 := sr.f0; have z3 := sr.f1))
  go_wp2
  have hsz := hb0.size
  have bq := ((Below.drew (Below.refl _ w2)).trans (hb1.mono (by simpa using hsz))).trans (hb2.mono (by have := hb1.size; simp at this; omega))
  obtain ⟨hB, hNV, hbl⟩ := close_num (base' := w.heap.size) sr (by omega) (hb0.trans (bq.trans (hb3.mono (by have h1 := hb1.size; have h2 := hb2.size; simp at h1; omega)))) hs2 ho2 (by have h1 := hb1.size; simp at h1; omega)
  generalize (w5.setCell ⟨w.heap.size + 1 + 1, 0, none⟩ (.bool s2)).setCell ⟨w.heap.size + 1 + 1, 1, none⟩ (.slice A2 n2 c2) = W2 at *
  have hy0 := hB.c0
  have hy1 := hB.c1
  skip
  exact bodyPost_ret (v := .tuple #[.agg #[.bool s2, .slice A2 n2 c2], .bool (fits (sgn g (Lm.val l - Lm.val k)))]) (by simp [results, Tryz.results34, go_sem, hy0, hy1]) rfl ⟨_, rfl, hNV, hbl⟩

set_option maxRecDepth 100000 in
set_option maxHeartbeats 2000000 in
theorem refAdd_less (w : World) (g g' : Bool) (A B : Option Addr) (n c m d : Nat) (l k : List Nat) (h : Raw w A n c l) (h' : Raw w B m d k) (hm : mayB g l = true) (hm' : mayB g' k = true) (hg : g ≠ g') (hlt : Lm.val l < Lm.val k) :
    Calls Tryz.prog 34 #[.agg #[.bool g, .slice A n c], .agg #[.bool g', .slice B m d]] w (NumPost w (clip (sgn g' (Lm.val k - Lm.val l))) (fits (sgn g' (Lm.val k - Lm.val l)))) := by
  have hgg : (g == g') = false := by simpa using hg
  have HL := Lib.hid hlt
  have hcm : decide (0 ≤ Lm.cmpN (Lm.val l) (Lm.val k)) = false := by rw [decide_eq_false_iff_not]; have := (Lm.cmpN_lt (a := Lm.val l) (b := Lm.val k)).2 hlt; omega
  clear hlt
  have hn8 : n ≤ 8 := by have := mayB_len hm; rw [h.1.1] at this; exact this
  have hm8 : m ≤ 8 := by have := mayB_len hm'; rw [h'.1.1] at this; exact this
  go_enter Tryz.func34, Tryz.ntmps34
  go_wp2_with fail
  have hb0 := (((Below.refl w.heap.size w).alloc (Nat.le_refl _) (.cells #[.bool g, .slice A n c] 24)).alloc (by simp) (.cells #[.bool g', .slice B m d] 24)).alloc (by simp; omega) (.cells #[.bool false, .slice none 0 0] 24)
  have hxa := ((Box.new w (.bool g) (.slice A n c)).alloc (.cells #[.bool g', .slice B m d] 24)).alloc (.cells #[.bool false, .slice none 0 0] 24)
  have hxb := (Box.new (w.alloc (.cells #[.bool g, .slice A n c] 24)) (.bool g') (.slice B m d)).alloc (.cells #[.bool false, .slice none 0 0] 24)
  have hxr := Box.new ((w.alloc (.cells #[.bool g, .slice A n c] 24)).alloc (.cells #[.bool g', .slice B m d] 24)) (.bool false) (.slice none 0 0)
  simp only [World.size_alloc] at hxb hxr
  have hAA := h.below hb0
  have hBB := h'.below hb0
  generalize ((w.alloc (.cells #[.bool g, .slice A n c] 24)).alloc (.cells #[.bool g', .slice B m d] 24)).alloc (.cells #[.bool false, .slice none 0 0] 24) = W at *
  have x1 := hxa.c0
  have x2 := hxa.c1
  refine (refMay_b W g A n c l hAA).mono ?_
  rintro e w1 ⟨rfl, hb1⟩
  have ya := hxa.below' hb1
  have yb := hxb.below' hb1
  have yr := hxr.below' hb1
  replace hAA := hAA.below hb1
  replace hBB := hBB.below hb1
  replace hb0 := hb0.trans (hb1.mono hb0.size)
  clear hxa hxb hxr x1 x2 hb1
  have x1 := ya.c0
  have x2 := ya.c1
  have x3 := yb.c0
  have x4 := yb.c1
  go_wp2_with fail
  refine (refMay_b w1 g' B m d k hBB).mono ?_
  rintro e w2 ⟨rfl, hb2⟩
  have za := ya.below' hb2
  have zb := yb.below' hb2
  have zr := yr.below' hb2
  replace hAA := hAA.below hb2
  replace hBB := hBB.below hb2
  replace hb0 := hb0.trans (hb2.mono hb0.size)
  clear ya yb yr x1 x2 x3 x4 hb2
  have x1 := za.c0
  have x2 := za.c1
  have x3 := zb.c0
  have x4 := zb.c1
  have aA := hAA.arg hm
  have aB := hBB.arg hm'
  go_wp2_with fail
  refine (size_any w2 A B n c m d l k hAA.1 hAA.2 hBB.1 hBB.2 (mayB_canon hm) (mayB_canon hm')).mono ?_
  rintro e wq ⟨rfl, qq, rfl⟩
  replace hb0 := hb0.drewN' qq
  replace za := za.drewN qq
  replace zb := zb.drewN qq
  replace zr := zr.drewN qq
  replace aA := aA.drewN qq
  replace aB := aB.drewN qq
  clear hAA hBB x1 x2 x3 x4
  generalize w2.drewN qq = w2 at *
  have x1 := za.c0
  have x2 := za.c1
  have x3 := zb.c0
  have x4 := zb.c1
  go_wp2
  have ne1 : w.heap.size ≠ w.heap.size + 1 + 1 := by omega
  have ne2 : w.heap.size + 1 ≠ w.heap.size + 1 + 1 := by omega
  go_region_held3 (fun w' => w'.cell? ⟨w.heap.size, 0, none⟩ = some (.bool g) ∧ w'.cell? ⟨w.heap.size, 1, none⟩ = some (.slice A n c) ∧ w'.cell? ⟨w.heap.size + 1, 0, none⟩ = some (.bool g') ∧ w'.cell? ⟨w.heap.size + 1, 1, none⟩ = some (.slice B m d))
    (first | exact ⟨x1, x2, x3, x4⟩ | exact ⟨ua.c0, ua.c1, ub.c0, ub.c1⟩ | exact ⟨ta.c0, ta.c1, tb.c0, tb.c1⟩ | exact ⟨sa.c0, sa.c1, sb.c0, sb.c1⟩ | exact ⟨((sa.far (p := ⟨w.heap.size + 1 + 1, 0, none⟩) ne1 _).far (p := ⟨w.heap.size + 1 + 1, 1, none⟩) ne1 _).c0, ((sa.far (p := ⟨w.heap.size + 1 + 1, 0, none⟩) ne1 _).far (p := ⟨w.heap.size + 1 + 1, 1, none⟩) ne1 _).c1, ((sb.far (p := ⟨w.heap.size + 1 + 1, 0, none⟩) ne2 _).far (p := ⟨w.heap.size + 1 + 1, 1, none⟩) ne2 _).c0, ((sb.far (p := ⟨w.heap.size + 1 + 1, 0, none⟩) ne2 _).far (p := ⟨w.heap.size + 1 + 1, 1, none⟩) ne2 _).c1⟩)
    (first
      | (go_at_call 64; refine (minus_row _ B A m d n c (Lm.val k) (Lm.val l) (by exact aB) (by exact aA) (Nat.le_of_lt HL.out)).mono ?_; rintro e w3 ⟨A1, c1, t, rfl, ho1, hv1, hb1⟩; have ua := Box.below' (w := w2.drew) za hb1; have ub := Box.below' (w := w2.drew) zb hb1; have ur := Box.below' (w := w2.drew) zr hb1; have Hv1 := Lib.hid hv1; clear hv1)
      | (go_at_call 60; refine (fit_row _ _ g' A1 _ c1 t _ (by exact ho1) (by omega) (by exact Hv1.out)).mono ?_; rintro e w4 ⟨_, rfl, ⟨s3, A3, n3, c3, rfl, hs3, ho3⟩, hb2⟩; have ta := ua.below' hb2; have tb := ub.below' hb2; have tr := ur.below' hb2)
      | (go_at_call 61; refine (refMayB_any _ _ s3 A3 n3 c3 _ hs3 (by exact ho3)).mono ?_; rintro e w5 ⟨_, rfl, ⟨s2, A2, n2, c2, rfl, hs2, ho2⟩, hb3⟩; have sa := ta.below' hb3; have sb := tb.below' hb3; have sr := tr.below' hb3; have z0 := sr.c0; have z1 := sr.c1; have z2 := sr.f0; have z3 := sr.f1))
  go_wp2
  have hsz := hb0.size
  have bq := ((Below.drew (Below.refl _ w2)).trans (hb1.mono (by simpa using hsz))).trans (hb2.mono (by have := hb1.size; simp at this; omega))
  obtain ⟨hB, hNV, hbl⟩ := close_num (base' := w.heap.size) sr (by omega) (hb0.trans (bq.trans (hb3.mono (by have h1 := hb1.size; have h2 := hb2.size; simp at h1; omega)))) hs2 ho2 (by have h1 := hb1.size; simp at h1; omega)
  generalize (w5.setCell ⟨w.heap.size + 1 + 1, 0, none⟩ (.bool s2)).setCell ⟨w.heap.size + 1 + 1, 1, none⟩ (.slice A2 n2 c2) = W2 at *
  have hy0 := hB.c0
  have hy1 := hB.c1
  skip
  exact bodyPost_ret (v := .tuple #[.agg #[.bool s2, .slice A2 n2 c2], .bool (fits (sgn g' (Lm.val k - Lm.val l)))]) (by simp [results, Tryz.results34, go_sem, hy0, hy1]) rfl ⟨_, rfl, hNV, hbl⟩

end Go.Proofs.YtompimbeaeinbaaGreat

namespace Go.Proofs.YtompimbeaeinbaaGreat
open Go.RowKit

set_option maxRecDepth 100000 in
theorem refAdd_yes (w : World) (g g' : Bool) (A B : Option Addr) (n c m d : Nat) (l k : List Nat) (h : Raw w A n c l) (h' : Raw w B m d k) (hm : mayB g l = true) (hm' : mayB g' k = true) :
    Calls Tryz.prog 34 #[.agg #[.bool g, .slice A n c], .agg #[.bool g', .slice B m d]] w (NumPost w (clip (sgn g (Lm.val l) + sgn g' (Lm.val k))) (fits (sgn g (Lm.val l) + sgn g' (Lm.val k)))) := by
  by_cases hg : g = g'
  · have := refAdd_same w g g' A B n c m d l k h h' hm hm' hg
    subst hg
    rwa [sgn_add] at this
  · rcases Nat.lt_or_ge (Lm.val l) (Lm.val k) with hl | hl
    · rw [← sgn_less hg hl]
      exact refAdd_less w g g' A B n c m d l k h h' hm hm' hg hl
    · rw [← sgn_more hg hl]
      exact refAdd_more w g g' A B n c m d l k h h' hm hm' hg hl

set_option maxRecDepth 100000 in
set_option maxHeartbeats 1000000 in
theorem refSub_no2 (w : World) (g g' : Bool) (A B : Option Addr) (n c m d : Nat) (l k : List Nat) (h : Raw w A n c l) (h' : Raw w B m d k) (hm' : mayB g' k = false) : Calls Tryz.prog 35 #[.agg #[.bool g, .slice A n c], .agg #[.bool g', .slice B m d]] w (NumPost w 0 false) := by
  go_enter Tryz.func35, Tryz.ntmps35
  go_wp2_with fail
  have hb0 := (((Below.refl w.heap.size w).alloc (Nat.le_refl _) (.cells #[.bool g, .slice A n c] 24)).alloc (by simp) (.cells #[.bool g', .slice B m d] 24)).alloc (by simp; omega) (.cells #[.bool false, .slice none 0 0] 24)
  have hxa := ((Box.new w (.bool g) (.slice A n c)).alloc (.cells #[.bool g', .slice B m d] 24)).alloc (.cells #[.bool false, .slice none 0 0] 24)
  have hxb := (Box.new (w.alloc (.cells #[.bool g, .slice A n c] 24)) (.bool g') (.slice B m d)).alloc (.cells #[.bool false, .slice none 0 0] 24)
  have hxr := Box.new ((w.alloc (.cells #[.bool g, .slice A n c] 24)).alloc (.cells #[.bool g', .slice B m d] 24)) (.bool false) (.slice none 0 0)
  simp only [World.size_alloc] at hxb hxr
  have hAA := h.below hb0
  have hBB := h'.below hb0
  generalize ((w.alloc (.cells #[.bool g, .slice A n c] 24)).alloc (.cells #[.bool g', .slice B m d] 24)).alloc (.cells #[.bool false, .slice none 0 0] 24) = W at *
  have x1 := hxb.c0
  have x2 := hxb.c1
  refine (refMay_b W g' B m d k hBB).mono ?_
  rintro e w1 ⟨rfl, hb1⟩
  have ya := hxa.below' hb1
  have yb := hxb.below' hb1
  have yr := hxr.below' hb1
  replace hAA := hAA.below hb1
  replace hBB := hBB.below hb1
  replace hb0 := hb0.trans (hb1.mono hb0.size)
  clear hxa hxb hxr x1 x2 hb1
  have x1 := ya.c0
  have x2 := ya.c1
  have x3 := yb.c0
  have x4 := yb.c1
  have z0 := yr.c0
  have z1 := yr.c1
  have z2 := yr.f0
  have z3 := yr.f1
  go_wp2
  obtain ⟨hB, hNV, hbl⟩ := close_num (s := false) (A := none) (n := 0) (c := 0) (z := 0) (base := w.heap.size) (base' := w.heap.size) yr (by omega) hb0 (Lib.hid rfl) (by rw [show (0 : Int).natAbs = 0 from rfl, Lm.digits_zero]; exact Own.nil _ _) (Nat.le_refl _)
  generalize (w1.setCell ⟨w.heap.size + 1 + 1, 0, none⟩ (.bool false)).setCell ⟨w.heap.size + 1 + 1, 1, none⟩ (.slice none 0 0) = W2 at *
  have hy0 := hB.c0
  have hy1 := hB.c1
  exact bodyPost_ret (v := .tuple #[.agg #[.bool false, .slice none 0 0], .bool false]) (by simp [results, Tryz.results35, go_sem, hy0, hy1]) rfl ⟨_, rfl, hNV, hbl⟩

set_option maxRecDepth 100000 in
set_option maxHeartbeats 2000000 in
theorem refSub_no1 (w : World) (g g' : Bool) (A B : Option Addr) (n c m d : Nat) (l k : List Nat) (h : Raw w A n c l) (h' : Raw w B m d k) (hm : mayB g l = false) (hm' : mayB g' k = true) : Calls Tryz.prog 35 #[.agg #[.bool g, .slice A n c], .agg #[.bool g', .slice B m d]] w (NumPost w 0 false) := by
  have htop := Lib.hid (top_of_may h'.1.2.2.1 hm')
  go_enter Tryz.func35, Tryz.ntmps35
  go_wp2_with fail
  have hb0 := (((Below.refl w.heap.size w).alloc (Nat.le_refl _) (.cells #[.bool g, .slice A n c] 24)).alloc (by simp) (.cells #[.bool g', .slice B m d] 24)).alloc (by simp; omega) (.cells #[.bool false, .slice none 0 0] 24)
  have hxa := ((Box.new w (.bool g) (.slice A n c)).alloc (.cells #[.bool g', .slice B m d] 24)).alloc (.cells #[.bool false, .slice none 0 0] 24)
  have hxb := (Box.new (w.alloc (.cells #[.bool g, .slice A n c] 24)) (.bool g') (.slice B m d)).alloc (.cells #[.bool false, .slice none 0 0] 24)
  have hxr := Box.new ((w.alloc (.cells #[.bool g, .slice A n c] 24)).alloc (.cells #[.bool g', .slice B m d] 24)) (.bool false) (.slice none 0 0)
  simp only [World.size_alloc] at hxb hxr
  have hAA := h.below hb0
  have hBB := h'.below hb0
  generalize ((w.alloc (.cells #[.bool g, .slice A n c] 24)).alloc (.cells #[.bool g', .slice B m d] 24)).alloc (.cells #[.bool false, .slice none 0 0] 24) = W at *
  have x1 := hxb.c0
  have x2 := hxb.c1
  refine (refMay_b W g' B m d k hBB).mono ?_
  rintro e w1 ⟨rfl, hb1⟩
  have ya := hxa.below' hb1
  have yb := hxb.below' hb1
  have yr := hxr.below' hb1
  replace hAA := hAA.below hb1
  replace hBB := hBB.below hb1
  replace hb0 := hb0.trans (hb1.mono hb0.size)
  clear hxa hxb hxr x1 x2 hb1
  have x1 := ya.c0
  have x2 := ya.c1
  have x3 := yb.c0
  have x4 := yb.c1
  go_wp2
  have ne1 : w.heap.size ≠ w.heap.size + 1 + 1 := by omega
  have ne2 : w.heap.size + 1 ≠ w.heap.size + 1 + 1 := by omega
  go_region_held3 (fun w' => w'.cell? ⟨w.heap.size, 0, none⟩ = some (.bool g) ∧ w'.cell? ⟨w.heap.size, 1, none⟩ = some (.slice A n c) ∧ w'.cell? ⟨w.heap.size + 1, 0, none⟩ = some (.bool g') ∧ w'.cell? ⟨w.heap.size + 1, 1, none⟩ = some (.slice B m d))
    (first | exact ⟨x1, x2, x3, x4⟩ | exact ⟨ua.c0, ua.c1, ub.c0, ub.c1⟩ | exact ⟨ta.c0, ta.c1, tb.c0, tb.c1⟩ | exact ⟨((ta.far (p := ⟨w.heap.size + 1 + 1, 0, none⟩) ne1 _).far (p := ⟨w.heap.size + 1 + 1, 1, none⟩) ne1 _).c0, ((ta.far (p := ⟨w.heap.size + 1 + 1, 0, none⟩) ne1 _).far (p := ⟨w.heap.size + 1 + 1, 1, none⟩) ne1 _).c1, ((tb.far (p := ⟨w.heap.size + 1 + 1, 0, none⟩) ne2 _).far (p := ⟨w.heap.size + 1 + 1, 1, none⟩) ne2 _).c0, ((tb.far (p := ⟨w.heap.size + 1 + 1, 0, none⟩) ne2 _).far (p := ⟨w.heap.size + 1 + 1, 1, none⟩) ne2 _).c1⟩)
    (first
      | (go_at_call 65; refine (refNeg_yes _ g' B m d k (by exact hBB) hm').mono ?_; rintro e w3 ⟨_, rfl, ⟨s3, A3, n3, c3, rfl, hs3, ho3⟩, hb1⟩; have ua := Box.below' (w := w1.drew) ya hb1; have ub := Box.below' (w := w1.drew) yb hb1; have ur := Box.below' (w := w1.drew) yr hb1; have hA3 := Raw.below (w := w1.drew) hAA hb1; have nm3 := Nm.of_own hs3 ho3)
      | (go_at_call 34; refine (refAdd_no1 _ g s3 A A3 n c n3 c3 l _ (by exact hA3) (by exact nm3.1) hm).mono ?_; rintro e w4 ⟨_, rfl, ⟨s2, A2, n2, c2, rfl, hs2, ho2⟩, hb2⟩; have ta := ua.below' hb2; have tb := ub.below' hb2; have tr := ur.below' hb2; have z0 := tr.c0; have z1 := tr.c1; have z2 := tr.f0; have z3 := tr.f1))
  go_wp2
  have hsz := hb0.size
  obtain ⟨hB, hNV, hbl⟩ := close_num (base' := w.heap.size) tr (by omega) (hb0.trans (((Below.drew (Below.refl _ w1)).trans (hb1.mono (by simpa using hsz))).trans (hb2.mono (by have := hb1.size; simp at this; omega)))) hs2 ho2 (by have := hb1.size; simp at this; omega)
  generalize (w4.setCell ⟨w.heap.size + 1 + 1, 0, none⟩ (.bool s2)).setCell ⟨w.heap.size + 1 + 1, 1, none⟩ (.slice A2 n2 c2) = W2 at *
  have hy0 := hB.c0
  have hy1 := hB.c1
  exact bodyPost_ret (v := .tuple #[.agg #[.bool s2, .slice A2 n2 c2], .bool (false)]) (by simp [results, Tryz.results35, go_sem, hy0, hy1]) rfl ⟨_, rfl, hNV, hbl⟩

set_option maxRecDepth 100000 in
set_option maxHeartbeats 2000000 in
theorem refSub_yes (w : World) (g g' : Bool) (A B : Option Addr) (n c m d : Nat) (l k : List Nat) (h : Raw w A n c l) (h' : Raw w B m d k) (hm : mayB g l = true) (hm' : mayB g' k = true) : Calls Tryz.prog 35 #[.agg #[.bool g, .slice A n c], .agg #[.bool g', .slice B m d]] w (NumPost w (clip (sgn g (Lm.val l) - sgn g' (Lm.val k))) (fits (sgn g (Lm.val l) - sgn g' (Lm.val k)))) := by
  have htop := Lib.hid (top_of_may h'.1.2.2.1 hm')
  go_enter Tryz.func35, Tryz.ntmps35
  go_wp2_with fail
  have hb0 := (((Below.refl w.heap.size w).alloc (Nat.le_refl _) (.cells #[.bool g, .slice A n c] 24)).alloc (by simp) (.cells #[.bool g', .slice B m d] 24)).alloc (by simp; omega) (.cells #[.bool false, .slice none 0 0] 24)
  have hxa := ((Box.new w (.bool g) (.slice A n c)).alloc (.cells #[.bool g', .slice B m d] 24)).alloc (.cells #[.bool false, .slice none 0 0] 24)
  have hxb := (Box.new (w.alloc (.cells #[.bool g, .slice A n c] 24)) (.bool g') (.slice B m d)).alloc (.cells #[.bool false, .slice none 0 0] 24)
  have hxr := Box.new ((w.alloc (.cells #[.bool g, .slice A n c] 24)).alloc (.cells #[.bool g', .slice B m d] 24)) (.bool false) (.slice none 0 0)
  simp only [World.size_alloc] at hxb hxr
  have hAA := h.below hb0
  have hBB := h'.below hb0
  generalize ((w.alloc (.cells #[.bool g, .slice A n c] 24)).alloc (.cells #[.bool g', .slice B m d] 24)).alloc (.cells #[.bool false, .slice none 0 0] 24) = W at *
  have x1 := hxb.c0
  have x2 := hxb.c1
  refine (refMay_b W g' B m d k hBB).mono ?_
  rintro e w1 ⟨rfl, hb1⟩
  have ya := hxa.below' hb1
  have yb := hxb.below' hb1
  have yr := hxr.below' hb1
  replace hAA := hAA.below hb1
  replace hBB := hBB.below hb1
  replace hb0 := hb0.trans (hb1.mono hb0.size)
  clear hxa hxb hxr x1 x2 hb1
  have x1 := ya.c0
  have x2 := ya.c1
  have x3 := yb.c0
  have x4 := yb.c1
  go_wp2
  have ne1 : w.heap.size ≠ w.heap.size + 1 + 1 := by omega
  have ne2 : w.heap.size + 1 ≠ w.heap.size + 1 + 1 := by omega
  go_region_held3 (fun w' => w'.cell? ⟨w.heap.size, 0, none⟩ = some (.bool g) ∧ w'.cell? ⟨w.heap.size, 1, none⟩ = some (.slice A n c) ∧ w'.cell? ⟨w.heap.size + 1, 0, none⟩ = some (.bool g') ∧ w'.cell? ⟨w.heap.size + 1, 1, none⟩ = some (.slice B m d))
    (first | exact ⟨x1, x2, x3, x4⟩ | exact ⟨ua.c0, ua.c1, ub.c0, ub.c1⟩ | exact ⟨ta.c0, ta.c1, tb.c0, tb.c1⟩ | exact ⟨((ta.far (p := ⟨w.heap.size + 1 + 1, 0, none⟩) ne1 _).far (p := ⟨w.heap.size + 1 + 1, 1, none⟩) ne1 _).c0, ((ta.far (p := ⟨w.heap.size + 1 + 1, 0, none⟩) ne1 _).far (p := ⟨w.heap.size + 1 + 1, 1, none⟩) ne1 _).c1, ((tb.far (p := ⟨w.heap.size + 1 + 1, 0, none⟩) ne2 _).far (p := ⟨w.heap.size + 1 + 1, 1, none⟩) ne2 _).c0, ((tb.far (p := ⟨w.heap.size + 1 + 1, 0, none⟩) ne2 _).far (p := ⟨w.heap.size + 1 + 1, 1, none⟩) ne2 _).c1⟩)
    (first
      | (go_at_call 65; refine (refNeg_yes _ g' B m d k (by exact hBB) hm').mono ?_; rintro e w3 ⟨_, rfl, ⟨s3, A3, n3, c3, rfl, hs3, ho3⟩, hb1⟩; have ua := Box.below' (w := w1.drew) ya hb1; have ub := Box.below' (w := w1.drew) yb hb1; have ur := Box.below' (w := w1.drew) yr hb1; have hA3 := Raw.below (w := w1.drew) hAA hb1; have nm3 := Nm.of_own hs3 ho3)
      | (go_at_call 34; refine (refAdd_yes _ g s3 A A3 n c n3 c3 l _ (by exact hA3) (by exact nm3.1) hm (nm3.may (by rw [Int.natAbs_neg]; exact htop.out))).mono ?_; rw [nm3.eqZ, ← Int.sub_eq_add_neg]; rintro e w4 ⟨_, rfl, ⟨s2, A2, n2, c2, rfl, hs2, ho2⟩, hb2⟩; have ta := ua.below' hb2; have tb := ub.below' hb2; have tr := ur.below' hb2; have z0 := tr.c0; have z1 := tr.c1; have z2 := tr.f0; have z3 := tr.f1))
  go_wp2
  have hsz := hb0.size
  obtain ⟨hB, hNV, hbl⟩ := close_num (base' := w.heap.size) tr (by omega) (hb0.trans (((Below.drew (Below.refl _ w1)).trans (hb1.mono (by simpa using hsz))).trans (hb2.mono (by have := hb1.size; simp at this; omega)))) hs2 ho2 (by have := hb1.size; simp at this; omega)
  generalize (w4.setCell ⟨w.heap.size + 1 + 1, 0, none⟩ (.bool s2)).setCell ⟨w.heap.size + 1 + 1, 1, none⟩ (.slice A2 n2 c2) = W2 at *
  have hy0 := hB.c0
  have hy1 := hB.c1
  exact bodyPost_ret (v := .tuple #[.agg #[.bool s2, .slice A2 n2 c2], .bool (fits (sgn g (Lm.val l) - sgn g' (Lm.val k)))]) (by simp [results, Tryz.results35, go_sem, hy0, hy1]) rfl ⟨_, rfl, hNV, hbl⟩

end Go.Proofs.YtompimbeaeinbaaGreat

namespace Go.Proofs.YtompimbeaeinbaaGreat
open Go.RowKit

set_option maxRecDepth 100000 in
set_option maxHeartbeats 1000000 in
theorem refMul_no1 (w : World) (g g' : Bool) (A B : Option Addr) (n c m d : Nat) (l k : List Nat) (h : Raw w A n c l) (h' : Raw w B m d k) (hm : mayB g l = false) : Calls Tryz.prog 36 #[.agg #[.bool g, .slice A n c], .agg #[.bool g', .slice B m d]] w (NumPost w 0 false) := by
  go_enter Tryz.func36, Tryz.ntmps36
  go_wp2_with fail
  have hb0 := (((Below.refl w.heap.size w).alloc (Nat.le_refl _) (.cells #[.bool g, .slice A n c] 24)).alloc (by simp) (.cells #[.bool g', .slice B m d] 24)).alloc (by simp; omega) (.cells #[.bool false, .slice none 0 0] 24)
  have hxa := ((Box.new w (.bool g) (.slice A n c)).alloc (.cells #[.bool g', .slice B m d] 24)).alloc (.cells #[.bool false, .slice none 0 0] 24)
  have hxb := (Box.new (w.alloc (.cells #[.bool g, .slice A n c] 24)) (.bool g') (.slice B m d)).alloc (.cells #[.bool false, .slice none 0 0] 24)
  have hxr := Box.new ((w.alloc (.cells #[.bool g, .slice A n c] 24)).alloc (.cells #[.bool g', .slice B m d] 24)) (.bool false) (.slice none 0 0)
  simp only [World.size_alloc] at hxb hxr
  have hAA := h.below hb0
  have hBB := h'.below hb0
  generalize ((w.alloc (.cells #[.bool g, .slice A n c] 24)).alloc (.cells #[.bool g', .slice B m d] 24)).alloc (.cells #[.bool false, .slice none 0 0] 24) = W at *
  have x1 := hxa.c0
  have x2 := hxa.c1
  refine (refMay_b W g A n c l hAA).mono ?_
  rintro e w1 ⟨rfl, hb1⟩
  have ya := hxa.below' hb1
  have yb := hxb.below' hb1
  have yr := hxr.below' hb1
  replace hAA := hAA.below hb1
  replace hBB := hBB.below hb1
  replace hb0 := hb0.trans (hb1.mono hb0.size)
  clear hxa hxb hxr x1 x2 hb1
  have x1 := ya.c0
  have x2 := ya.c1
  have x3 := yb.c0
  have x4 := yb.c1
  have z0 := yr.c0
  have z1 := yr.c1
  have z2 := yr.f0
  have z3 := yr.f1
  go_wp2
  obtain ⟨hB, hNV, hbl⟩ := close_num (s := false) (A := none) (n := 0) (c := 0) (z := 0) (base := w.heap.size) (base' := w.heap.size) yr (by omega) hb0 (Lib.hid rfl) (by rw [show (0 : Int).natAbs = 0 from rfl, Lm.digits_zero]; exact Own.nil _ _) (Nat.le_refl _)
  generalize (w1.setCell ⟨w.heap.size + 1 + 1, 0, none⟩ (.bool false)).setCell ⟨w.heap.size + 1 + 1, 1, none⟩ (.slice none 0 0) = W2 at *
  have hy0 := hB.c0
  have hy1 := hB.c1
  exact bodyPost_ret (v := .tuple #[.agg #[.bool false, .slice none 0 0], .bool false]) (by simp [results, Tryz.results36, go_sem, hy0, hy1]) rfl ⟨_, rfl, hNV, hbl⟩

set_option maxRecDepth 100000 in
set_option maxHeartbeats 1000000 in
theorem refMul_no2 (w : World) (g g' : Bool) (A B : Option Addr) (n c m d : Nat) (l k : List Nat) (h : Raw w A n c l) (h' : Raw w B m d k) (hm : mayB g l = true) (hm' : mayB g' k = false) : Calls Tryz.prog 36 #[.agg #[.bool g, .slice A n c], .agg #[.bool g', .slice B m d]] w (NumPost w 0 false) := by
  go_enter Tryz.func36, Tryz.ntmps36
  go_wp2_with fail
  have hb0 := (((Below.refl w.heap.size w).alloc (Nat.le_refl _) (.cells #[.bool g, .slice A n c] 24)).alloc (by simp) (.cells #[.bool g', .slice B m d] 24)).alloc (by simp; omega) (.cells #[.bool false, .slice none 0 0] 24)
  have hxa := ((Box.new w (.bool g) (.slice A n c)).alloc (.cells #[.bool g', .slice B m d] 24)).alloc (.cells #[.bool false, .slice none 0 0] 24)
  have hxb := (Box.new (w.alloc (.cells #[.bool g, .slice A n c] 24)) (.bool g') (.slice B m d)).alloc (.cells #[.bool false, .slice none 0 0] 24)
  have hxr := Box.new ((w.alloc (.cells #[.bool g, .slice A n c] 24)).alloc (.cells #[.bool g', .slice B m d] 24)) (.bool false) (.slice none 0 0)
  simp only [World.size_alloc] at hxb hxr
  have hAA := h.below hb0
  have hBB := h'.below hb0
  generalize ((w.alloc (.cells #[.bool g, .slice A n c] 24)).alloc (.cells #[.bool g', .slice B m d] 24)).alloc (.cells #[.bool false, .slice none 0 0] 24) = W at *
  have x1 := hxa.c0
  have x2 := hxa.c1
  refine (refMay_b W g A n c l hAA).mono ?_
  rintro e w1 ⟨rfl, hb1⟩
  have ya := hxa.below' hb1
  have yb := hxb.below' hb1
  have yr := hxr.below' hb1
  replace hAA := hAA.below hb1
  replace hBB := hBB.below hb1
  replace hb0 := hb0.trans (hb1.mono hb0.size)
  clear hxa hxb hxr x1 x2 hb1
  have x1 := ya.c0
  have x2 := ya.c1
  have x3 := yb.c0
  have x4 := yb.c1
  go_wp2_with fail
  refine (refMay_b w1 g' B m d k hBB).mono ?_
  rintro e w2 ⟨rfl, hb2⟩
  have za := ya.below' hb2
  have zb := yb.below' hb2
  have zr := yr.below' hb2
  replace hAA := hAA.below hb2
  replace hBB := hBB.below hb2
  replace hb0 := hb0.trans (hb2.mono hb0.size)
  clear ya yb yr x1 x2 x3 x4 hb2
  have x1 := za.c0
  have x2 := za.c1
  have x3 := zb.c0
  have x4 := zb.c1
  have z0 := zr.c0
  have z1 := zr.c1
  have z2 := zr.f0
  have z3 := zr.f1
  go_wp2
  obtain ⟨hB, hNV, hbl⟩ := close_num (s := false) (A := none) (n := 0) (c := 0) (z := 0) (base := w.heap.size) (base' := w.heap.size) zr (by omega) hb0 (Lib.hid rfl) (by rw [show (0 : Int).natAbs = 0 from rfl, Lm.digits_zero]; exact Own.nil _ _) (Nat.le_refl _)
  generalize (w2.setCell ⟨w.heap.size + 1 + 1, 0, none⟩ (.bool false)).setCell ⟨w.heap.size + 1 + 1, 1, none⟩ (.slice none 0 0) = W2 at *
  have hy0 := hB.c0
  have hy1 := hB.c1
  exact bodyPost_ret (v := .tuple #[.agg #[.bool false, .slice none 0 0], .bool false]) (by simp [results, Tryz.results36, go_sem, hy0, hy1]) rfl ⟨_, rfl, hNV, hbl⟩

set_option maxRecDepth 100000 in
theorem set_drewN (w : World) (c : Array Value) (t : TypeId) (q i : Nat) (v : Value) : ((w.alloc (.cells c t)).drewN q).setCell ⟨w.heap.size, i, none⟩ v = (w.alloc (.cells (c.setIfInBounds i v) t)).drewN q := by
  show ((w.alloc (.cells c t)).setCell ⟨w.heap.size, i, none⟩ v).drewN q = _
  rw [World.setCell_alloc_at _ _ _ _ _ rfl]
set_option maxRecDepth 100000 in
theorem mul_wrap2 (x a b z : Nat) (h : x + (a * b + z) < 18446744073709551616) : IntKind.u64.wrap (IntKind.u64.wrap (IntKind.u64.wrap ((a : Int) * b) + z) + x) = ((x + (a * b + z) : Nat) : Int) := by
  rw [← Int.natCast_mul]
  generalize a * b = p at *
  rw [IntKind.wrap_u64, IntKind.wrap_u64, IntKind.wrap_u64]
  omega
set_option maxRecDepth 100000 in
theorem val_take_zeros {o : List Nat} {q : Nat} (h : ∀ p, q ≤ p → Lm.lg o p = 0) : Lm.val (o.take q) = Lm.val o := by
  have hd : ∀ m : List Nat, (∀ j, Lm.lg m j = 0) → Lm.val m = 0 := by
    intro m
    induction m with
    | nil => intro _; rfl
    | cons x m ih =>
      intro hm
      have hx : x = 0 := hm 0
      have hr := ih (fun j => by have := hm (j + 1); rwa [Lm.lg_succ] at this)
      simp only [Lm.val, hr, hx]
  conv => rhs; rw [← List.take_append_drop q o]
  rw [Lm.val_append, hd (o.drop q) (fun j => by
    have := h (q + j) (by omega)
    simp only [Lm.lg, List.getD_eq_getElem?_getD, List.getElem?_drop] at this ⊢
    exact this)]
  simp
set_option maxRecDepth 100000 in
theorem refmul_outer {t o l k : List Nat} {i m x : Nat} (hsl : Lm.Small l) (hsk : Lm.Small k) (hk : k.length = m)
    (hin : Lm.val (t.take (i + (m + 1))) + 4294967296 ^ (i + (m + 1)) * x = Lm.val (o.take (i + (m + 1))) + 4294967296 ^ i * (Lm.lg l i * Lm.val (k.take (m + 1))))
    (hold : ∀ p, i + (m + 1) ≤ p → Lm.lg t p = Lm.lg o p) (hinv : Lm.val o = Lm.val (l.take i) * Lm.val k) (hoz : ∀ p, i + m ≤ p → Lm.lg o p = 0) :
    Lm.val t = Lm.val (l.take (i + 1)) * Lm.val k ∧ ∀ p, i + 1 + m ≤ p → Lm.lg t p = 0 := by
  have hz : ∀ p, i + (m + 1) ≤ p → Lm.lg t p = 0 := fun p hp => by rw [hold p hp]; exact hoz p (by omega)
  refine ⟨?_, fun p hp => hz p (by omega)⟩
  rw [val_take_zeros hz, val_take_zeros (fun p hp => hoz p (by omega)), List.take_of_length_le (l := k) (by omega), hinv] at hin
  have hV : Lm.val (l.take i) * Lm.val k + 4294967296 ^ i * (Lm.lg l i * Lm.val k) = Lm.val (l.take (i + 1)) * Lm.val k := by
    rw [Lm.val_take_succ, Nat.add_mul, Nat.mul_assoc]
  rw [hV] at hin
  have b1 : Lm.val (l.take (i + 1)) < 4294967296 ^ (i + 1) := by
    refine Nat.lt_of_lt_of_le (Lm.val_lt (Lm.small_take hsl _)) (Nat.pow_le_pow_right (by decide) ?_)
    rw [List.length_take]; omega
  have b2 : Lm.val k < 4294967296 ^ m := by have := Lm.val_lt hsk; rwa [hk] at this
  have b3 : Lm.val (l.take (i + 1)) * Lm.val k < 4294967296 ^ (i + (m + 1)) := by
    rw [show i + (m + 1) = (i + 1) + m from by omega, Nat.pow_add]
    exact Nat.mul_lt_mul'' b1 b2
  generalize 4294967296 ^ (i + (m + 1)) = Q at *
  generalize Lm.val (l.take (i + 1)) * Lm.val k = V at *
  rcases Nat.eq_zero_or_pos x with h0 | h0
  · subst h0
    rw [Nat.mul_zero] at hin
    omega
  · have h4 : Q * 1 ≤ Q * x := Nat.mul_le_mul_left _ h0
    generalize Q * x = q at *
    omega
set_option maxRecDepth 100000 in
theorem lg_zeros (n p : Nat) : Lm.lg (List.replicate n 0) p = 0 := by
  simp only [Lm.lg, List.getD_eq_getElem?_getD, List.getElem?_replicate]
  split <;> rfl

set_option maxRecDepth 100000 in
set_option maxHeartbeats 4000000 in
theorem refMul_yes (w : World) (g g' : Bool) (A B : Option Addr) (n c m d : Nat) (l k : List Nat) (h : Raw w A n c l) (h' : Raw w B m d k) (hm : mayB g l = true) (hm' : mayB g' k = true) :
    Calls Tryz.prog 36 #[.agg #[.bool g, .slice A n c], .agg #[.bool g', .slice B m d]] w (NumPost w (clip (sgn g (Lm.val l) * sgn g' (Lm.val k))) (fits (sgn g (Lm.val l) * sgn g' (Lm.val k)))) := by
  have hn8 : n ≤ 8 := by have := mayB_len hm; rw [h.1.1] at this; exact this
  have hm8 : m ≤ 8 := by have := mayB_len hm'; rw [h'.1.1] at this; exact this
  have hll := Lib.hid h.1.1
  have hkk := Lib.hid h'.1.1
  have hsl := h.1.2.2.1
  have hsk := h'.1.2.2.1
  have hmk := fun w => make_limbs (n + m + 1) (by omega) w
  simp only [Int.natCast_add, Int.natCast_one] at hmk
  go_enter Tryz.func36, Tryz.ntmps36
  go_wp2_with fail
  have hb0 := (((Below.refl w.heap.size w).alloc (Nat.le_refl _) (.cells #[.bool g, .slice A n c] 24)).alloc (by simp) (.cells #[.bool g', .slice B m d] 24)).alloc (by simp; omega) (.cells #[.bool false, .slice none 0 0] 24)
  have hxa := ((Box.new w (.bool g) (.slice A n c)).alloc (.cells #[.bool g', .slice B m d] 24)).alloc (.cells #[.bool false, .slice none 0 0] 24)
  have hxb := (Box.new (w.alloc (.cells #[.bool g, .slice A n c] 24)) (.bool g') (.slice B m d)).alloc (.cells #[.bool false, .slice none 0 0] 24)
  have hxr := Box.new ((w.alloc (.cells #[.bool g, .slice A n c] 24)).alloc (.cells #[.bool g', .slice B m d] 24)) (.bool false) (.slice none 0 0)
  simp only [World.size_alloc] at hxb hxr
  have hAA := h.below hb0
  have hBB := h'.below hb0
  generalize ((w.alloc (.cells #[.bool g, .slice A n c] 24)).alloc (.cells #[.bool g', .slice B m d] 24)).alloc (.cells #[.bool false, .slice none 0 0] 24) = W at *
  have x1 := hxa.c0
  have x2 := hxa.c1
  refine (refMay_b W g A n c l hAA).mono ?_
  rintro e w1 ⟨rfl, hb1⟩
  have ya := hxa.below' hb1
  have yb := hxb.below' hb1
  have yr := hxr.below' hb1
  replace hAA := hAA.below hb1
  replace hBB := hBB.below hb1
  replace hb0 := hb0.trans (hb1.mono hb0.size)
  clear hxa hxb hxr x1 x2 hb1
  have x1 := ya.c0
  have x2 := ya.c1
  have x3 := yb.c0
  have x4 := yb.c1
  go_wp2_with fail
  refine (refMay_b w1 g' B m d k hBB).mono ?_
  rintro e w2 ⟨rfl, hb2⟩
  have za := ya.below' hb2
  have zb := yb.below' hb2
  have zr := yr.below' hb2
  replace hAA := hAA.below hb2
  replace hBB := hBB.below hb2
  replace hb0 := hb0.trans (hb2.mono hb0.size)
  clear ya yb yr x1 x2 x3 x4 hb2
  have x1 := za.c0
  have x2 := za.c1
  have x3 := zb.c0
  have x4 := zb.c1
  have l1 := za.lt
  have l2 := zb.lt
  have LA := hAA.1
  have LB := hBB.1
  go_wp2
  go_loopw [7] (fun i w' => ∃ (j q : Nat) (t : List Nat), j ≤ n ∧ i = .int .i64 (j : Int) ∧ w' = (w2.alloc (.cells (arr t) 63)).drewN q ∧ Hid (t.length = n + m + 1) ∧ Lm.Small t ∧ Hid (Lm.val t = Lm.val (l.take j) * Lm.val k) ∧ Hid (∀ p, j + m ≤ p → Lm.lg t p = 0)) (fun i _ => n - (intOf i).toNat)
  case atStart => exact ⟨0, 0, List.replicate (n + m + 1) 0, Nat.zero_le _, rfl, rfl, Lib.hid (by simp), Lm.small_replicate _, Lib.hid (by rw [val_zeros]; simp [Lm.val]), Lib.hid (fun p _ => lg_zeros _ p)⟩
  case round =>
    obtain ⟨i, q, o, hi, rfl, rfl, hol, hos, hinv, hoz⟩ := hrel
    by_cases h0 : i < n
    · obtain ⟨b, oo, rfl, hb, hcell⟩ := LA.2.2.2 (by omega)
      have hg : w2.cell? ⟨b, oo + i, none⟩ = some (.int .u32 (Lm.lg l i : Nat)) := hcell i h0
      have hl0 : Lm.lg l i ≤ 4294967295 := by have := Lm.lg_lt hsl i; omega
      clear hcell
      go_wp2
      go_loopw [8, 9] (fun u r w' => ∃ (j x q : Nat) (t : List Nat), j ≤ m + 1 ∧ r = .int .i64 (j : Int) ∧ x ≤ 4294967295 ∧ u = .int .u64 (x : Int) ∧ w' = (w2.alloc (.cells (arr t) 63)).drewN q ∧ Hid (t.length = n + m + 1) ∧ Lm.Small t ∧ Hid (∀ p, i + j ≤ p → Lm.lg t p = Lm.lg o p) ∧
        Hid (Lm.val (t.take (i + j)) + 4294967296 ^ (i + j) * x = Lm.val (o.take (i + j)) + 4294967296 ^ i * (Lm.lg l i * Lm.val (k.take j)))) (fun _ r _ => m + 1 - (intOf r).toNat)
      case atStart => exact ⟨0, 0, q, o, Nat.zero_le _, rfl, by omega, rfl, rfl, hol, hos, fun p _ => rfl, Lib.hid (by simp [Lm.val])⟩
      case round =>
        obtain ⟨j, x, q', t, hj, rfl, hx, rfl, rfl, htl, hts, hold, hin⟩ := hrel
        by_cases h1 : j ≤ m
        · have hk0 : Lm.lg k j ≤ 4294967295 := by have := Lm.lg_lt hsk j; omega
          have ht0 : Lm.lg t (i + j) ≤ 4294967295 := by have := Lm.lg_lt hts (i + j); omega
          have hget := arr_get (t := t) (i := i + j) (by rw [htl.out]; omega)
          have e1 : IntKind.i64.wrap ((i : Int) + (j : Int)) = (i : Int) + (j : Int) := IntWalk.i64_in _ (by omega)
          have e2 : (0 : Int) ≤ (i : Int) + (j : Int) := by omega
          have e3 : (i : Int) + (j : Int) < (n : Int) + (m : Int) + 1 := by omega
          have e4 : ((i : Int) + (j : Int)).toNat = i + j := by omega
          have LBx : Lim (w2.alloc (.cells (arr t) 63)) B m d k := LB.alloc _
          go_wp2
          generalize hWQ : (w2.alloc (.cells (arr t) 63)).drewN q' = WQ
          have y1 : WQ.cell? ⟨w.heap.size, 1, none⟩ = some (.slice (some ⟨b, oo, none⟩) n c) := by rw [← hWQ]; exact (za.alloc _).c1
          have y2 : WQ.cell? ⟨w.heap.size + 1, 1, none⟩ = some (.slice B m d) := by rw [← hWQ]; exact (zb.alloc _).c1
          have y3 : WQ.cell? ⟨b, oo + i, none⟩ = some (.int .u32 (Lm.lg l i : Nat)) := by rw [← hWQ]; exact (World.cell?_alloc_lt _ _ _ hb).trans hg
          have y4 : WQ.cell? ⟨w2.heap.size, i + j, none⟩ = some (.int .u32 (Lm.lg t (i + j) : Nat)) := by rw [← hWQ]; exact (World.cell?_alloc_at _ _ _ _ rfl).trans hget
          have LBq : Lim WQ B m d k := by rw [← hWQ]; exact LBx
          have HW := Lib.hid hWQ
          clear hWQ
          go_quiet ((go_at_call 66; exact Calls.quiet_of_same ((at_any _ B m d k j (LBq.drewN _) (by omega)).mono fun _ _ h => ⟨h.1, h.2.symm⟩)))
          rw [← HW.out]
          have hf := Lm.mul_fits (c := x) (x := Lm.lg l i) (y := Lm.lg k j) (z := Lm.lg t (i + j)) (by omega) (by omega) (by omega) (by omega)
          rw [mul_wrap2 x _ _ _ hf]
          have hF := Lib.hid hf
          clear hf y1 y2 y3 y4 LBq
          obtain ⟨v, hv⟩ : ∃ v, v = x + (Lm.lg l i * Lm.lg k j + Lm.lg t (i + j)) := ⟨_, rfl⟩
          rw [← hv]
          have hvb : v ≤ 18446744073709551615 := by rw [hv]; have := hF.out; omega
          have HV := Lib.hid hv
          clear hv
          go_wp2
          rw [castd, castm, set_drewN, arr_set]
          have hst := Lm.mul_step (t := t) (o := o) (k := k) (i := i) (j := j) (c := x) (x := Lm.lg l i) (by rw [htl.out]; omega) hin.out (hold.out _ (Nat.le_refl _))
          rw [← HV.out] at hst
          exact ⟨⟨j + 1, _, _, _, by omega, by go_num, by omega, rfl, rfl, Lib.hid (by rw [List.length_set]; exact htl.out), Lm.small_set hts _ (Nat.mod_lt _ (by decide)), Lib.hid (fun p hp => by rw [Lm.lg_set (by rw [htl.out]; omega), if_neg (by omega)]; exact hold.out p (by omega)), Lib.hid hst⟩, by simp [intOf]; omega⟩
        · have hjm : j = m + 1 := by omega
          subst hjm
          have hfin := refmul_outer hsl hsk hkk.out hin.out hold.out hinv.out hoz.out
          have HF := Lib.hid hfin
          clear hfin
          have hdm : decide (m + 1 ≤ m) = false := by rw [decide_eq_false_iff_not]; omega
          go_wp2
          exact ⟨⟨i + 1, q', t, by omega, by go_num, rfl, htl, hts, Lib.hid HF.out.1, Lib.hid HF.out.2⟩, by simp [intOf]; omega⟩
    · have hin : i = n := by omega
      subst hin
      have hval := Lib.hid (show Lm.val o = Lm.val l * Lm.val k by rw [hinv.out, List.take_of_length_le (by rw [hll.out]; exact Nat.le_refl _)])
      have hO : Own ((w2.alloc (.cells (arr o) 63)).drewN q) w.heap.size (some ⟨w2.heap.size, 0, none⟩) (i + m + 1) (i + m + 1) o := by
        have h1 := Own.new w2 w.heap.size o hos hb0.size (by rw [hol.out]; unfold maxLen; omega)
        rw [hol.out] at h1
        exact h1
      have ya : Box ((w2.alloc (.cells (arr o) 63)).drewN q) w.heap.size (.bool g) (.slice A i c) := za.alloc _
      have yb : Box ((w2.alloc (.cells (arr o) 63)).drewN q) (w.heap.size + 1) (.bool g') (.slice B m d) := zb.alloc _
      have yr : Box ((w2.alloc (.cells (arr o) 63)).drewN q) (w.heap.size + 1 + 1) (.bool false) (.slice none 0 0) := zr.alloc _
      have hb4 : Below w.heap.size w ((w2.alloc (.cells (arr o) 63)).drewN q) := (hb0.alloc hb0.size _).drewN' q
      go_wp2_with fail
      generalize (w2.alloc (.cells (arr o) 63)).drewN q = WX at *
      refine (fit_row WX _ _ _ _ _ o _ hO (by omega) hval.out).mono ?_
      rintro e w4 ⟨_, rfl, ⟨s3, A3, n3, c3, rfl, hs3, ho3⟩, hb5⟩
      replace yr := yr.below' hb5
      go_wp2_with fail
      refine (refMayB_any w4 _ s3 A3 n3 c3 _ hs3 ho3).mono ?_
      rw [sgn_mul]
      rintro e w5 ⟨_, rfl, ⟨s2, A2, n2, c2, rfl, hs2, ho2⟩, hb6⟩
      replace yr := yr.below' hb6
      have z0 := yr.c0
      have z1 := yr.c1
      have z2 := yr.f0
      have z3 := yr.f1
      go_wp2
      obtain ⟨hB, hNV, hbl⟩ := close_num (base' := w.heap.size) yr (by omega) ((hb4.trans (hb5.mono hb4.size)).trans (hb6.mono (Nat.le_trans hb4.size hb5.size))) hs2 ho2 hb4.size
      generalize (w5.setCell ⟨w.heap.size + 1 + 1, 0, none⟩ (.bool s2)).setCell ⟨w.heap.size + 1 + 1, 1, none⟩ (.slice A2 n2 c2) = W2 at *
      have hy0 := hB.c0
      have hy1 := hB.c1
      exact bodyPost_ret (v := .tuple #[.agg #[.bool s2, .slice A2 n2 c2], .bool (fits (sgn g (Lm.val l) * sgn g' (Lm.val k)))]) (by simp [results, Tryz.results36, go_sem, hy0, hy1]) rfl ⟨_, rfl, hNV, hbl⟩

end Go.Proofs.YtompimbeaeinbaaGreat

namespace Go.Proofs.YtompimbeaeinbaaGreat
open Go.RowKit

set_option maxRecDepth 100000 in
theorem or_u64' (v x : Nat) (hv : v ≤ 4294967295) (hx : x ≤ 4294967295) : bits .or .u64 ((v : Int) * 4294967296) (x : Int) = ((x + 4294967296 * v : Nat) : Int) := by
  have e : ((v : Int) * 4294967296) = ((v * 4294967296 : Nat) : Int) := by omega
  rw [e, bits_or_u64_nat _ _ (by omega) (by omega)]
  have h := Nat.shiftLeft_add_eq_or_of_lt (a := v) (b := x) (i := 32) (by omega)
  rw [Nat.shiftLeft_eq] at h
  rw [← h]
  congr 1
  omega
set_option maxRecDepth 100000 in
theorem val_drop_pred {l : List Nat} {j : Nat} (h0 : 0 < j) (hj : j ≤ l.length) : Lm.val (l.drop (j - 1)) = Lm.lg l (j - 1) + 4294967296 * Lm.val (l.drop j) := by
  obtain ⟨i, rfl⟩ : ∃ i, j = i + 1 := ⟨j - 1, by omega⟩
  rw [Nat.add_sub_cancel, List.drop_eq_getElem_cons (by omega), Lm.val]
  congr 1
  simp only [Lm.lg, List.getD_eq_getElem?_getD]
  rw [List.getElem?_eq_getElem (by omega)]
  rfl

set_option maxRecDepth 100000 in
set_option maxHeartbeats 1000000 in
theorem refSmall_no1 (w : World) (g : Bool) (A : Option Addr) (n c : Nat) (l : List Nat) (h : Raw w A n c l) (hm : mayB g l = false) :
    Calls Tryz.prog 67 #[.agg #[.bool g, .slice A n c]] w (SmallPost w 0 false) := by
  go_enter Tryz.func67, Tryz.ntmps67
  go_wp2_with fail
  have hb0 := ((Below.refl w.heap.size w).alloc (Nat.le_refl _) (.cells #[.bool g, .slice A n c] 24))
  have hxa := Box.new w (.bool g) (.slice A n c)
  have hAA := h.below hb0
  generalize w.alloc (.cells #[.bool g, .slice A n c] 24) = W at *
  refine (refMay_b W g A n c l hAA).mono ?_
  rintro e w1 ⟨rfl, hb1⟩
  have ya := hxa.below' hb1
  replace hAA := hAA.below hb1
  replace hb0 := hb0.trans (hb1.mono hb0.size)
  clear hxa hb1
  have x1 := ya.c0
  have x2 := ya.c1
  go_wp2
  go_ret2
  exact ⟨rfl, hb0⟩

set_option maxRecDepth 100000 in
set_option maxHeartbeats 1000000 in
theorem refSmall_no2 (w : World) (g : Bool) (A : Option Addr) (n c : Nat) (l : List Nat) (h : Raw w A n c l) (hm : mayB g l = true) (h2 : 2 < n) :
    Calls Tryz.prog 67 #[.agg #[.bool g, .slice A n c]] w (SmallPost w 0 false) := by
  go_enter Tryz.func67, Tryz.ntmps67
  go_wp2_with fail
  have hb0 := ((Below.refl w.heap.size w).alloc (Nat.le_refl _) (.cells #[.bool g, .slice A n c] 24))
  have hxa := Box.new w (.bool g) (.slice A n c)
  have hAA := h.below hb0
  generalize w.alloc (.cells #[.bool g, .slice A n c] 24) = W at *
  refine (refMay_b W g A n c l hAA).mono ?_
  rintro e w1 ⟨rfl, hb1⟩
  have ya := hxa.below' hb1
  replace hAA := hAA.below hb1
  replace hb0 := hb0.trans (hb1.mono hb0.size)
  clear hxa hb1
  have x1 := ya.c0
  have x2 := ya.c1
  have h2' : decide ((2 : Int) < (n : Int)) = true := by rw [decide_eq_true_iff]; omega
  go_wp2
  go_ret2
  exact ⟨rfl, hb0⟩

set_option maxRecDepth 100000 in
set_option maxHeartbeats 2000000 in
theorem refSmall_neg_in (w : World) (A : Option Addr) (n c : Nat) (l : List Nat) (h : Raw w A n c l) (hm : mayB true l = true) (h2 : n ≤ 2) (hv60 : Lm.val l ≤ 1152921504606846976) :
    Calls Tryz.prog 67 #[.agg #[.bool true, .slice A n c]] w (SmallPost w (-(Lm.val l : Int)) true) := by
  have h2' : decide ((2 : Int) < (n : Int)) = false := by rw [decide_eq_false_iff_not]; omega
  have h60 := Lib.hid hv60
  clear hv60
  go_enter Tryz.func67, Tryz.ntmps67
  go_wp2_with fail
  have hb0 := ((Below.refl w.heap.size w).alloc (Nat.le_refl _) (.cells #[.bool true, .slice A n c] 24))
  have hxa := Box.new w (.bool true) (.slice A n c)
  have hAA := h.below hb0
  generalize w.alloc (.cells #[.bool true, .slice A n c] 24) = W at *
  refine (refMay_b W true A n c l hAA).mono ?_
  rintro e w1 ⟨rfl, hb1⟩
  have ya := hxa.below' hb1
  replace hAA := hAA.below hb1
  replace hb0 := hb0.trans (hb1.mono hb0.size)
  clear hxa hb1
  have x1 := ya.c0
  have x2 := ya.c1
  go_wp2
  go_loop [4, 5] (fun u i => ∃ (j v : Nat), j ≤ n ∧ i = .int .i64 ((j : Int) - 1) ∧ u = .int .u64 (v : Int) ∧ Hid (v = Lm.val (l.drop j))) (fun _ i => (intOf i + 1).toNat)
  case atStart => exact ⟨n, 0, Nat.le_refl _, rfl, rfl, Lib.hid (by rw [List.drop_of_length_le (by rw [hAA.1.1]; exact Nat.le_refl _)]; rfl)⟩
  case round =>
    obtain ⟨j, v, hj, rfl, rfl, hv⟩ := hrel
    by_cases h0 : 0 < j
    · obtain ⟨b, o, rfl, hb, hcell⟩ := hAA.1.2.2.2 (by omega)
      have hg := hcell (j - 1) (by omega)
      obtain ⟨x, hx⟩ : ∃ x, x = Lm.lg l (j - 1) := ⟨_, rfl⟩
      have hl0 : x ≤ 4294967295 := by rw [hx]; have := Lm.lg_lt hAA.1.2.2.1 (j - 1); omega
      rw [← hx] at hg
      have hX := Lib.hid hx
      have hvl : v ≤ 4294967295 := by
        rw [hv.out]
        have hs : Lm.Small (l.drop j) := fun y hy => hAA.1.2.2.1 y (List.mem_of_mem_drop hy)
        have h1 := Lm.val_lt hs
        have h2 : (l.drop j).length ≤ 1 := by rw [List.length_drop, hAA.1.1]; omega
        have h3 : 4294967296 ^ (l.drop j).length ≤ 4294967296 ^ 1 := Nat.pow_le_pow_right (by decide) h2
        omega
      have hstep := Lib.hid (show x + 4294967296 * v = Lm.val (l.drop (j - 1)) by rw [val_drop_pred h0 (by rw [hAA.1.1]; exact hj), hv.out, hx])
      have hpos : (0 : Int) ≤ (j : Int) - 1 := by omega
      have hpos1 : (1 : Int) ≤ (j : Int) := by omega
      have hpos2 : (j : Int) - 1 < (n : Int) := by omega
      clear hcell hx
      go_wp2
      rw [or_u64' v x hvl hl0]
      exact ⟨⟨j - 1, _, by omega, by go_num, rfl, hstep⟩, by simp [intOf]; omega⟩
    · have hjn : j = 0 := by omega
      subst hjn
      have hvl := Lib.hid (show v = Lm.val l by rw [hv.out]; rfl)
      have h60' := h60.out
      have ht : decide ((v : Int) ≤ 1152921504606846976) = true := by rw [decide_eq_true_iff]; rw [hvl.out]; omega
      have hvb : v ≤ 1152921504606846976 := by rw [hvl.out]; omega
      clear h60'
      go_wp2
      go_ret2
      exact ⟨by rw [hvl.out]; rfl, hb0⟩

set_option maxRecDepth 100000 in
set_option maxHeartbeats 2000000 in
theorem refSmall_neg_out (w : World) (A : Option Addr) (n c : Nat) (l : List Nat) (h : Raw w A n c l) (hm : mayB true l = true) (h2 : n ≤ 2) (hv60 : 1152921504606846976 < Lm.val l) :
    Calls Tryz.prog 67 #[.agg #[.bool true, .slice A n c]] w (SmallPost w (0) false) := by
  have h2' : decide ((2 : Int) < (n : Int)) = false := by rw [decide_eq_false_iff_not]; omega
  have h60 := Lib.hid hv60
  clear hv60
  go_enter Tryz.func67, Tryz.ntmps67
  go_wp2_with fail
  have hb0 := ((Below.refl w.heap.size w).alloc (Nat.le_refl _) (.cells #[.bool true, .slice A n c] 24))
  have hxa := Box.new w (.bool true) (.slice A n c)
  have hAA := h.below hb0
  generalize w.alloc (.cells #[.bool true, .slice A n c] 24) = W at *
  refine (refMay_b W true A n c l hAA).mono ?_
  rintro e w1 ⟨rfl, hb1⟩
  have ya := hxa.below' hb1
  replace hAA := hAA.below hb1
  replace hb0 := hb0.trans (hb1.mono hb0.size)
  clear hxa hb1
  have x1 := ya.c0
  have x2 := ya.c1
  go_wp2
  go_loop [4, 5] (fun u i => ∃ (j v : Nat), j ≤ n ∧ i = .int .i64 ((j : Int) - 1) ∧ u = .int .u64 (v : Int) ∧ Hid (v = Lm.val (l.drop j))) (fun _ i => (intOf i + 1).toNat)
  case atStart => exact ⟨n, 0, Nat.le_refl _, rfl, rfl, Lib.hid (by rw [List.drop_of_length_le (by rw [hAA.1.1]; exact Nat.le_refl _)]; rfl)⟩
  case round =>
    obtain ⟨j, v, hj, rfl, rfl, hv⟩ := hrel
    by_cases h0 : 0 < j
    · obtain ⟨b, o, rfl, hb, hcell⟩ := hAA.1.2.2.2 (by omega)
      have hg := hcell (j - 1) (by omega)
      obtain ⟨x, hx⟩ : ∃ x, x = Lm.lg l (j - 1) := ⟨_, rfl⟩
      have hl0 : x ≤ 4294967295 := by rw [hx]; have := Lm.lg_lt hAA.1.2.2.1 (j - 1); omega
      rw [← hx] at hg
      have hX := Lib.hid hx
      have hvl : v ≤ 4294967295 := by
        rw [hv.out]
        have hs : Lm.Small (l.drop j) := fun y hy => hAA.1.2.2.1 y (List.mem_of_mem_drop hy)
        have h1 := Lm.val_lt hs
        have h2 : (l.drop j).length ≤ 1 := by rw [List.length_drop, hAA.1.1]; omega
        have h3 : 4294967296 ^ (l.drop j).length ≤ 4294967296 ^ 1 := Nat.pow_le_pow_right (by decide) h2
        omega
      have hstep := Lib.hid (show x + 4294967296 * v = Lm.val (l.drop (j - 1)) by rw [val_drop_pred h0 (by rw [hAA.1.1]; exact hj), hv.out, hx])
      have hpos : (0 : Int) ≤ (j : Int) - 1 := by omega
      have hpos1 : (1 : Int) ≤ (j : Int) := by omega
      have hpos2 : (j : Int) - 1 < (n : Int) := by omega
      clear hcell hx
      go_wp2
      rw [or_u64' v x hvl hl0]
      exact ⟨⟨j - 1, _, by omega, by go_num, rfl, hstep⟩, by simp [intOf]; omega⟩
    · have hjn : j = 0 := by omega
      subst hjn
      have hvl := Lib.hid (show v = Lm.val l by rw [hv.out]; rfl)
      have h60' := h60.out
      have ht : decide ((v : Int) ≤ 1152921504606846976) = false := by rw [decide_eq_false_iff_not]; rw [hvl.out]; omega
      skip
      clear h60'
      go_wp2
      go_ret2
      exact ⟨rfl, hb0⟩

set_option maxRecDepth 100000 in
set_option maxHeartbeats 2000000 in
theorem refSmall_pos_in (w : World) (A : Option Addr) (n c : Nat) (l : List Nat) (h : Raw w A n c l) (hm : mayB false l = true) (h2 : n ≤ 2) (hv60 : Lm.val l ≤ 1152921504606846975) :
    Calls Tryz.prog 67 #[.agg #[.bool false, .slice A n c]] w (SmallPost w ((Lm.val l : Int)) true) := by
  have h2' : decide ((2 : Int) < (n : Int)) = false := by rw [decide_eq_false_iff_not]; omega
  have h60 := Lib.hid hv60
  clear hv60
  go_enter Tryz.func67, Tryz.ntmps67
  go_wp2_with fail
  have hb0 := ((Below.refl w.heap.size w).alloc (Nat.le_refl _) (.cells #[.bool false, .slice A n c] 24))
  have hxa := Box.new w (.bool false) (.slice A n c)
  have hAA := h.below hb0
  generalize w.alloc (.cells #[.bool false, .slice A n c] 24) = W at *
  refine (refMay_b W false A n c l hAA).mono ?_
  rintro e w1 ⟨rfl, hb1⟩
  have ya := hxa.below' hb1
  replace hAA := hAA.below hb1
  replace hb0 := hb0.trans (hb1.mono hb0.size)
  clear hxa hb1
  have x1 := ya.c0
  have x2 := ya.c1
  go_wp2
  go_loop [4, 5] (fun u i => ∃ (j v : Nat), j ≤ n ∧ i = .int .i64 ((j : Int) - 1) ∧ u = .int .u64 (v : Int) ∧ Hid (v = Lm.val (l.drop j))) (fun _ i => (intOf i + 1).toNat)
  case atStart => exact ⟨n, 0, Nat.le_refl _, rfl, rfl, Lib.hid (by rw [List.drop_of_length_le (by rw [hAA.1.1]; exact Nat.le_refl _)]; rfl)⟩
  case round =>
    obtain ⟨j, v, hj, rfl, rfl, hv⟩ := hrel
    by_cases h0 : 0 < j
    · obtain ⟨b, o, rfl, hb, hcell⟩ := hAA.1.2.2.2 (by omega)
      have hg := hcell (j - 1) (by omega)
      obtain ⟨x, hx⟩ : ∃ x, x = Lm.lg l (j - 1) := ⟨_, rfl⟩
      have hl0 : x ≤ 4294967295 := by rw [hx]; have := Lm.lg_lt hAA.1.2.2.1 (j - 1); omega
      rw [← hx] at hg
      have hX := Lib.hid hx
      have hvl : v ≤ 4294967295 := by
        rw [hv.out]
        have hs : Lm.Small (l.drop j) := fun y hy => hAA.1.2.2.1 y (List.mem_of_mem_drop hy)
        have h1 := Lm.val_lt hs
        have h2 : (l.drop j).length ≤ 1 := by rw [List.length_drop, hAA.1.1]; omega
        have h3 : 4294967296 ^ (l.drop j).length ≤ 4294967296 ^ 1 := Nat.pow_le_pow_right (by decide) h2
        omega
      have hstep := Lib.hid (show x + 4294967296 * v = Lm.val (l.drop (j - 1)) by rw [val_drop_pred h0 (by rw [hAA.1.1]; exact hj), hv.out, hx])
      have hpos : (0 : Int) ≤ (j : Int) - 1 := by omega
      have hpos1 : (1 : Int) ≤ (j : Int) := by omega
      have hpos2 : (j : Int) - 1 < (n : Int) := by omega
      clear hcell hx
      go_wp2
      rw [or_u64' v x hvl hl0]
      exact ⟨⟨j - 1, _, by omega, by go_num, rfl, hstep⟩, by simp [intOf]; omega⟩
    · have hjn : j = 0 := by omega
      subst hjn
      have hvl := Lib.hid (show v = Lm.val l by rw [hv.out]; rfl)
      have h60' := h60.out
      have ht : decide ((v : Int) < 1152921504606846976) = true := by rw [decide_eq_true_iff]; rw [hvl.out]; omega
      have hvb : v ≤ 1152921504606846976 := by rw [hvl.out]; omega
      clear h60'
      go_wp2
      go_ret2
      exact ⟨by rw [hvl.out]; rfl, hb0⟩

set_option maxRecDepth 100000 in
set_option maxHeartbeats 2000000 in
theorem refSmall_pos_out (w : World) (A : Option Addr) (n c : Nat) (l : List Nat) (h : Raw w A n c l) (hm : mayB false l = true) (h2 : n ≤ 2) (hv60 : 1152921504606846975 < Lm.val l) :
    Calls Tryz.prog 67 #[.agg #[.bool false, .slice A n c]] w (SmallPost w (0) false) := by
  have h2' : decide ((2 : Int) < (n : Int)) = false := by rw [decide_eq_false_iff_not]; omega
  have h60 := Lib.hid hv60
  clear hv60
  go_enter Tryz.func67, Tryz.ntmps67
  go_wp2_with fail
  have hb0 := ((Below.refl w.heap.size w).alloc (Nat.le_refl _) (.cells #[.bool false, .slice A n c] 24))
  have hxa := Box.new w (.bool false) (.slice A n c)
  have hAA := h.below hb0
  generalize w.alloc (.cells #[.bool false, .slice A n c] 24) = W at *
  refine (refMay_b W false A n c l hAA).mono ?_
  rintro e w1 ⟨rfl, hb1⟩
  have ya := hxa.below' hb1
  replace hAA := hAA.below hb1
  replace hb0 := hb0.trans (hb1.mono hb0.size)
  clear hxa hb1
  have x1 := ya.c0
  have x2 := ya.c1
  go_wp2
  go_loop [4, 5] (fun u i => ∃ (j v : Nat), j ≤ n ∧ i = .int .i64 ((j : Int) - 1) ∧ u = .int .u64 (v : Int) ∧ Hid (v = Lm.val (l.drop j))) (fun _ i => (intOf i + 1).toNat)
  case atStart => exact ⟨n, 0, Nat.le_refl _, rfl, rfl, Lib.hid (by rw [List.drop_of_length_le (by rw [hAA.1.1]; exact Nat.le_refl _)]; rfl)⟩
  case round =>
    obtain ⟨j, v, hj, rfl, rfl, hv⟩ := hrel
    by_cases h0 : 0 < j
    · obtain ⟨b, o, rfl, hb, hcell⟩ := hAA.1.2.2.2 (by omega)
      have hg := hcell (j - 1) (by omega)
      obtain ⟨x, hx⟩ : ∃ x, x = Lm.lg l (j - 1) := ⟨_, rfl⟩
      have hl0 : x ≤ 4294967295 := by rw [hx]; have := Lm.lg_lt hAA.1.2.2.1 (j - 1); omega
      rw [← hx] at hg
      have hX := Lib.hid hx
      have hvl : v ≤ 4294967295 := by
        rw [hv.out]
        have hs : Lm.Small (l.drop j) := fun y hy => hAA.1.2.2.1 y (List.mem_of_mem_drop hy)
        have h1 := Lm.val_lt hs
        have h2 : (l.drop j).length ≤ 1 := by rw [List.length_drop, hAA.1.1]; omega
        have h3 : 4294967296 ^ (l.drop j).length ≤ 4294967296 ^ 1 := Nat.pow_le_pow_right (by decide) h2
        omega
      have hstep := Lib.hid (show x + 4294967296 * v = Lm.val (l.drop (j - 1)) by rw [val_drop_pred h0 (by rw [hAA.1.1]; exact hj), hv.out, hx])
      have hpos : (0 : Int) ≤ (j : Int) - 1 := by omega
      have hpos1 : (1 : Int) ≤ (j : Int) := by omega
      have hpos2 : (j : Int) - 1 < (n : Int) := by omega
      clear hcell hx
      go_wp2
      rw [or_u64' v x hvl hl0]
      exact ⟨⟨j - 1, _, by omega, by go_num, rfl, hstep⟩, by simp [intOf]; omega⟩
    · have hjn : j = 0 := by omega
      subst hjn
      have hvl := Lib.hid (show v = Lm.val l by rw [hv.out]; rfl)
      have h60' := h60.out
      have ht : decide ((v : Int) < 1152921504606846976) = false := by rw [decide_eq_false_iff_not]; rw [hvl.out]; omega
      skip
      clear h60'
      go_wp2
      go_ret2
      exact ⟨rfl, hb0⟩

set_option maxRecDepth 100000 in
theorem refSmall_yes (w : World) (g : Bool) (A : Option Addr) (n c : Nat) (l : List Nat) (h : Raw w A n c l) (hm : mayB g l = true) :
    Calls Tryz.prog 67 #[.agg #[.bool g, .slice A n c]] w (SmallPost w (if smallB (sgn g (Lm.val l)) then sgn g (Lm.val l) else 0) (smallB (sgn g (Lm.val l)))) := by
  have hcan := mayB_canon hm
  have hsm := h.1.2.2.1
  by_cases h2 : n ≤ 2
  · cases g with
    | true =>
      by_cases hv : Lm.val l ≤ 1152921504606846976
      · have e : smallB (sgn true (Lm.val l)) = true := by simp [smallB, sgn]; omega
        rw [e, if_pos rfl]
        exact refSmall_neg_in w A n c l h hm h2 hv
      · have e : smallB (sgn true (Lm.val l)) = false := by simp [smallB, sgn]; omega
        rw [e]
        exact refSmall_neg_out w A n c l h hm h2 (by omega)
    | false =>
      by_cases hv : Lm.val l ≤ 1152921504606846975
      · have e : smallB (sgn false (Lm.val l)) = true := by simp [smallB, sgn]; omega
        rw [e, if_pos rfl]
        exact refSmall_pos_in w A n c l h hm h2 hv
      · have e : smallB (sgn false (Lm.val l)) = false := by simp [smallB, sgn]; omega
        rw [e]
        exact refSmall_pos_out w A n c l h hm h2 (by omega)
  · have hbig : ¬ Lm.val l < 4294967296 ^ 2 := fun hlt => by
      have := (Lm.digits_length (Lm.val l) 2).2 hlt
      rw [Lm.digits_val hsm hcan, h.1.1] at this
      exact h2 this
    have e : smallB (sgn g (Lm.val l)) = false := by
      cases g <;> simp [smallB, sgn] <;> omega
    rw [e]
    exact refSmall_no2 w g A n c l h hm (by omega)

end Go.Proofs.YtompimbeaeinbaaGreat
