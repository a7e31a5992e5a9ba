import Derived.Test.YtbpihjcghmmacaaLeafB
namespace Go.Proofs.Ytbpihjcghmmacaa
open Go.RowKit

set_option maxHeartbeats 800000 in
theorem sameLimbs_any (w : World) (A B : Option Addr) (n c m d : Nat) (l k : List Nat) (h : Lim w A n c l) (hn : c ≤ maxLen) (h' : Lim w B m d k) (_hm : d ≤ maxLen) :
    Calls Try.prog 36 #[.slice A n c, .slice B m d] w fun e w' => e = .returned (.bool (decide (l = k))) ∧ ∃ q, w' = w.drewN q := by
  unfold maxLen at hn _hm
  have hnc := h.2.1
  have hmd := h'.2.1
  have hll := Lib.hid h.1
  have hkk := Lib.hid h'.1
  by_cases hnm : n = m
  · subst hnm
    go_enter Try.func36, Try.ntmps36
    go_wp2
    go_loopw [5] (fun i w' => ∃ j : Nat, j ≤ n ∧ i = .int .i64 (j : Int) ∧ (∃ q, w' = w.drewN q) ∧ Hid (∀ t, t < j → Lm.lg l t = Lm.lg k t)) (fun i _ => n - (intOf i).toNat)
    case atStart => exact ⟨0, Nat.zero_le _, rfl, ⟨0, rfl⟩, fun t h1 => by omega⟩
    case round =>
      obtain ⟨j, hj, rfl, ⟨q, rfl⟩, hz⟩ := hrel
      by_cases h0 : j < n
      · obtain ⟨b, o, rfl, hlt, hcell⟩ := h.2.2.2 (by omega)
        obtain ⟨b', o', rfl, hlt', hcell'⟩ := h'.2.2.2 (by omega)
        have hg := hcell j h0
        have hg' := hcell' j h0
        have hpos2 : (j : Int) < (n : Int) := by omega
        clear hcell hcell'
        by_cases hx : Lm.lg l j = Lm.lg k j
        · rw [← hx] at hg'
          have hX := Lib.hid hx
          clear hx
          go_wp2
          go_quiet (fail)
          go_wp2
          go_roundw
          case rel => exact ⟨j + 1, by omega, by go_num, ⟨_, rfl⟩, fun t h1 => by
            by_cases e : t = j
            · rw [e]; exact hX.out
            · exact hz.out t (by omega)⟩
          case measure => simp [intOf]; omega
        · have hne : ((((Lm.lg l j : Nat) : Int) != ((Lm.lg k j : Nat) : Int))) = true := by rw [bne_iff_ne]; omega
          have fin := Lib.hid (show decide (l = k) = false by rw [decide_eq_false_iff_not]; rintro rfl; exact hx rfl)
          go_wp2
          go_quiet (fail)
          go_wp2
          go_ret
          rw [fin.out]
          exact ⟨rfl, _, by rw [World.drewN_drewN]⟩
      · have e := Lm.eq_of_lg (hll.out.trans hkk.out.symm) (fun t ht => hz.out t (by have := hll.out; omega))
        have fin := Lib.hid (show decide (l = k) = true by rw [decide_eq_true_iff]; exact e)
        clear e
        go_wp2
        go_ret
        rw [fin.out]
        exact ⟨rfl, q, rfl⟩
  · have hne : (((n : Nat) : Int) != ((m : Nat) : Int)) = true := by rw [bne_iff_ne]; omega
    have fin := Lib.hid (show decide (l = k) = false by rw [decide_eq_false_iff_not]; rintro rfl; exact hnm (by rw [← hll.out, ← hkk.out]))
    go_enter Try.func36, Try.ntmps36
    go_wp2
    go_ret
    rw [fin.out]
    exact ⟨rfl, 0, rfl⟩

/-- Two numbers as they stand. -/
def sameB (g g' : Bool) (l k : List Nat) : Bool := (g == g') && decide (l = k)

set_option maxHeartbeats 800000 in
theorem sameNum_any (w : World) (g g' : Bool) (A B : Option Addr) (n c m d : Nat) (l k : List Nat) (h : Lim w A n c l) (hn : c ≤ maxLen) (h' : Lim w B m d k) (hm : d ≤ maxLen) :
    Calls Try.prog 11 #[.agg #[.bool g, .slice A n c], .agg #[.bool g', .slice B m d]] w fun e w' => e = .returned (.bool (sameB g g' l k)) ∧ Below w.heap.size w w' := by
  by_cases hgg : g = g'
  · subst hgg
    have fin := Lib.hid (show sameB g g l k = decide (l = k) by simp [sameB])
    go_enter Try.func11, Try.ntmps11
    go_wp2_with fail
    refine (sameLimbs_any _ A B n c m d l k ((h.alloc _).alloc _) hn ((h'.alloc _).alloc _) hm).mono ?_
    rintro e w' ⟨rfl, q, rfl⟩
    go_wp2
    go_ret
    rw [fin.out]
    exact ⟨rfl, (((Below.refl _ _).alloc (Nat.le_refl _) _).alloc (by simp) _).drewN' q⟩
  · have fin := Lib.hid (show sameB g g' l k = false by simp [sameB, hgg])
    have hne : (g == g') = false := by simpa using hgg
    go_enter Try.func11, Try.ntmps11
    go_wp2
    go_ret
    rw [fin.out]
    exact ⟨rfl, ((Below.refl _ _).alloc (Nat.le_refl _) _).alloc (by simp) _⟩

/-- Limbs with a sign; 0 has none. -/
def signedV (g : Bool) (A : Option Addr) (n c : Nat) : Value := if n = 0 then .agg #[.bool false, .slice none 0 0] else .agg #[.bool g, .slice A n c]

theorem signed_any (w : World) (g : Bool) (A : Option Addr) (n c : Nat) :
    Calls Try.prog 51 #[.bool g, .slice A n c] w fun e w' => e = .returned (signedV g A n c) ∧ Below w.heap.size w w' := by
  by_cases h0 : n = 0
  · subst h0
    go_enter Try.func51, Try.ntmps51
    go_wp2
    exact bodyPost_ret (v := .agg #[.bool false, .slice none 0 0]) (by simp [results, Try.results51, go_sem]) rfl ⟨by simp [signedV], (Below.refl _ _).alloc (Nat.le_refl _) _⟩
  · have hne : (((n : Nat) : Int) == 0) = false := by rw [beq_eq_false_iff_ne]; omega
    go_enter Try.func51, Try.ntmps51
    go_wp2
    exact bodyPost_ret (v := .agg #[.bool g, .slice A n c]) (by simp [results, Try.results51, go_sem]) rfl ⟨by simp [signedV, h0], (Below.refl _ _).alloc (Nat.le_refl _) _⟩

end Go.Proofs.Ytbpihjcghmmacaa
