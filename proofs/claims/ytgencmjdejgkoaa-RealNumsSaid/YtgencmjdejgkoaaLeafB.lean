import Derived.Test.YtgencmjdejgkoaaLeafA
namespace Go.Proofs.Ytgencmjdejgkoaa
open Go.RowKit

theorem cmp_top {a b : List Nat} (ha : Lm.Small a) (hb : Lm.Small b) (k : Nat) (hl : a.length = b.length) (hk : k < a.length)
    (heq : ∀ j, k < j → j < a.length → Lm.lg a j = Lm.lg b j) (hne : Lm.lg a k ≠ Lm.lg b k) : Lm.cmpN (Lm.val a) (Lm.val b) = Lm.cmpN (Lm.lg a k) (Lm.lg b k) := by
  rcases Nat.lt_or_ge (Lm.lg a k) (Lm.lg b k) with h | h
  · have := Lm.val_lt_of_top ha hb k hl hk heq h
    unfold Lm.cmpN; rw [if_pos this, if_pos h]
  · have h : Lm.lg b k < Lm.lg a k := by omega
    have := Lm.val_lt_of_top hb ha k hl.symm (by omega) (fun j h1 h2 => (heq j h1 (by omega)).symm) h
    unfold Lm.cmpN; rw [if_neg (by omega), if_pos this, if_neg (by omega), if_pos h]
theorem cmp_len {a b : List Nat} (ha : Lm.Small a) (hb : Lm.Small b) (hca : Lm.Canon a) (hcb : Lm.Canon b) (hne : a.length ≠ b.length) :
    Lm.cmpN (Lm.val a) (Lm.val b) = Lm.cmpN a.length b.length := by
  rcases Nat.lt_or_ge a.length b.length with h | h
  · have := Lm.val_lt_of_length ha hb hcb h
    unfold Lm.cmpN; rw [if_pos this, if_pos h]
  · have h : b.length < a.length := by omega
    have := Lm.val_lt_of_length hb ha hca h
    unfold Lm.cmpN; rw [if_neg (by omega), if_pos this, if_neg (by omega), if_pos h]

set_option maxHeartbeats 800000 in
theorem compareLimbs_any (w : World) (A B : Option Addr) (n c m d : Nat) (l k : List Nat) (h : Lim w A n c l) (hn : c ≤ maxLen) (h' : Lim w B m d k) (_hm : d ≤ maxLen) (hcl : Lm.Canon l) (hck : Lm.Canon k) :
    Calls Try.prog 62 #[.slice A n c, .slice B m d] w fun e w' => e = .returned (.int .i64 (Lm.cmpN (Lm.val l) (Lm.val k))) ∧ ∃ q, w' = w.drewN q := by
  unfold maxLen at hn _hm
  have hnc := h.2.1
  have hmd := h'.2.1
  have hll := Lib.hid h.1
  have hkk := Lib.hid h'.1
  by_cases hnm : n = m
  · subst hnm
    go_enter Try.func62, Try.ntmps62
    go_wp2
    go_loopw [5] (fun i w' => ∃ j : Nat, j ≤ n ∧ i = .int .i64 ((j : Int) - 1) ∧ (∃ q, w' = w.drewN q) ∧ Hid (∀ t, j ≤ t → t < n → Lm.lg l t = Lm.lg k t)) (fun i _ => (intOf i + 1).toNat)
    case atStart => exact ⟨n, Nat.le_refl _, rfl, ⟨0, rfl⟩, fun t h1 h2 => by omega⟩
    case round =>
      obtain ⟨j, hj, rfl, ⟨q, rfl⟩, hz⟩ := hrel
      by_cases h0 : j = 0
      · subst h0
        have e := Lm.eq_of_lg (hll.out.trans hkk.out.symm) (fun t ht => hz.out t (by omega) (by rw [← hll.out]; exact ht))
        have fin := Lib.hid (show Lm.cmpN (Lm.val l) (Lm.val k) = 0 by rw [e]; unfold Lm.cmpN; simp)
        clear e
        go_wp2
        go_ret
        rw [fin.out]
        exact ⟨rfl, q, rfl⟩
      · obtain ⟨b, o, rfl, hlt, hcell⟩ := h.2.2.2 (by omega)
        obtain ⟨b', o', rfl, hlt', hcell'⟩ := h'.2.2.2 (by omega)
        have hg := hcell (j - 1) (by omega)
        have hg' := hcell' (j - 1) (by omega)
        have hpos : (0 : Int) ≤ (j : Int) - 1 := by omega
        have hpos1 : (1 : Int) ≤ (j : Int) := by omega
        have hpos2 : (j : Int) - 1 < (n : Int) := by omega
        clear hcell hcell'
        by_cases hx : Lm.lg l (j - 1) = Lm.lg k (j - 1)
        · rw [← hx] at hg'
          have hX := Lib.hid hx
          clear hx
          go_wp2
          go_quiet (fail)
          go_wp2
          go_roundw
          case rel => exact ⟨j - 1, by omega, by go_num, ⟨_, rfl⟩, fun t h1 h2 => by
            by_cases e : t = j - 1
            · rw [e]; exact hX.out
            · exact hz.out t (by omega) h2⟩
          case measure => simp [intOf]; omega
        · have hne : ((((Lm.lg l (j - 1) : Nat) : Int) != ((Lm.lg k (j - 1) : Nat) : Int))) = true := by rw [bne_iff_ne]; omega
          have fin := Lib.hid (cmp_top h.2.2.1 h'.2.2.1 (j - 1) (hll.out.trans hkk.out.symm) (by have := hll.out; omega) (fun t h1 h2 => hz.out t (by omega) (by have := hll.out; omega)) hx)
          go_wp2
          go_quiet (fail)
          go_wp2
          generalize hw2 : (w.drewN q).drewN nq = w2
          have hg2 : w2.cell? ⟨b, o + (j - 1), none⟩ = some (.int .u32 (Lm.lg l (j - 1) : Nat)) := by rw [← hw2]; exact hg
          have hg2' : w2.cell? ⟨b', o' + (j - 1), none⟩ = some (.int .u32 (Lm.lg k (j - 1) : Nat)) := by rw [← hw2]; exact hg'
          have hW2 := Lib.hid hw2
          clear hw2
          go_quiet ((go_at_call 71; exact Calls.quiet_of_same ((compare_u32 _ _ _).mono fun _ _ h => ⟨h.1, h.2.symm⟩)))
          go_wp2
          go_ret
          rw [fin.out]
          exact ⟨rfl, _, by rw [← hW2.out, World.drewN_drewN, World.drewN_drewN]⟩
  · have hne : (((n : Nat) : Int) != ((m : Nat) : Int)) = true := by rw [bne_iff_ne]; omega
    have fin := Lib.hid (cmp_len h.2.2.1 h'.2.2.1 hcl hck (by rw [hll.out, hkk.out]; exact hnm))
    go_enter Try.func62, Try.ntmps62
    go_wp2_with (go_at_call 70; refine (compare_int _ _ _).mono ?_; rintro e w' ⟨rfl, rfl⟩)
    go_ret
    rw [fin.out]
    exact ⟨by rw [hll.out, hkk.out]; rfl, 0, rfl⟩

end Go.Proofs.Ytgencmjdejgkoaa
