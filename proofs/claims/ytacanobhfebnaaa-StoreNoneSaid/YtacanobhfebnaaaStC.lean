/-
  PACKAGE container/heap over the free slots: up, down, Push, Pop.
-/
import Derived.Test.YtacanobhfebnaaaStB
namespace Go.Proofs.Ytacanobhfebnaaa
open Go.RowKit
open St

set_option maxRecDepth 100000 in
set_option maxRecDepth 100000 in
set_option maxHeartbeats 4000000 in
theorem up_any {w : World} {S : Nat} {v1 v3 : Value} {F : Option Addr} {m e : Nat} {d : Nat → Nat} (h : Fre w S v1 v3 F m e d) (hm : m ≤ 100000) (j : Nat) (hj : j < m) (hu : UpI m j d) :
    Calls Try.prog 33 #[hv S, .int .i64 (j : Int)] w fun r w' => r = .returned (.tuple #[]) ∧ ∃ d', Fre w' S v1 v3 F m e d' ∧ Hp m d' ∧ Pm m d d' ∧ w.grownBy w' (F.map (·.block)) := by
  go_enter Try.func33, Try.ntmps33
  go_wp2_with fail
  go_loopw [1] (fun x w' => ∃ (j' : Nat) (d' : Nat → Nat), j' < m ∧ x = .int .i64 (j' : Int) ∧ Fre w' S v1 v3 F m e d' ∧ UpI m j' d' ∧ Pm m d d' ∧ w.grownBy w' (F.map (·.block))) (fun x _ => (intOf x).toNat)
  case atStart => exact ⟨j, d, hj, rfl, h, hu, Pm.refl _ _, World.grownBy.refl _ _⟩
  case round =>
    clear h hu hj
    obtain ⟨j', d', hj, rfl, h, hu, hp, hg⟩ := hrel
    have x1 := h.c1
    rcases Nat.eq_zero_or_pos j' with h0 | h0
    · subst h0
      go_wp2
      go_end0
      exact ⟨rfl, d', h, hu.done (.inl rfl), hp, hg⟩
    · obtain ⟨p, hpp⟩ : ∃ p, p = (j' - 1) / 2 := ⟨_, rfl⟩
      have hE : ((j' : Int) - 1) / 2 = (p : Int) := by omega
      have hne : ¬ p = j' := by omega
      have hpm : p < m := by omega
      have qm := fun n => meth_less n ⟨S, 1, none⟩ _ wr x1
      have HL := Lib.hid (less_any h j' p hj hpm hm)
      by_cases hlt : d' j' < d' p
      · have hdl : decide (d' j' < d' p) = true := decide_eq_true hlt
        have HU := Lib.hid (show UpI m p (swp d' p j') from by rw [hpp] at hlt ⊢; exact hu.step h0 hj hlt)
        have hps := Lib.hid (hp.trans (Pm.swp d' hpm hj))
        have qs := fun n q => meth_swap n ⟨S, 1, none⟩ _ (wr.drewN q) (show (wr.drewN q).cell? ⟨S, 1, none⟩ = _ from x1)
        have HS := Lib.hid (fun q => swap_any (h.drewN q) p j' hpm hj hm)
        have hlt2 : p < j' := by omega
        clear hu hpp h
        go_wp2_with (first
          | (go_at_call 52; (with_reducible refine HL.out.mono ?_); rintro r w' ⟨rfl, q, rfl⟩)
          | (go_at_call 53; (with_reducible refine (HS.out _).mono ?_); rintro r w' ⟨rfl, hF, hG⟩; replace hF := Lib.hid hF; replace hG := Lib.hid hG))
        exact ⟨⟨p, _, hpm, rfl, hF.out, HU.out, hps.out, hg.trans (gr_drewN hG.out)⟩, by simp [intOf]; omega⟩
      · have hdl : decide (d' j' < d' p) = false := decide_eq_false hlt
        have HP := Lib.hid (hu.done (.inr (by rw [← hpp]; omega)))
        clear hpp hu
        go_wp2_with (go_at_call 52; (with_reducible refine HL.out.mono ?_); rintro r w' ⟨rfl, q, rfl⟩)
        go_end0
        exact ⟨rfl, d', h.drewN q, HP.out, hp, ⟨hg.os, hg.tape, hg.output, hg.size, hg.block⟩⟩

set_option maxRecDepth 100000 in
set_option maxRecDepth 100000 in
set_option maxHeartbeats 4000000 in
theorem down_any {w : World} {S : Nat} {v1 v3 : Value} {F : Option Addr} {n e : Nat} {d : Nat → Nat} (h : Fre w S v1 v3 F (n + 1) e d) (hm : n + 1 ≤ 100000) (hu : DnI n 0 d) :
    Calls Try.prog 34 #[hv S, .int .i64 0, .int .i64 (n : Int)] w fun r w' => ∃ b, r = .returned (.bool b) ∧ ∃ d', Fre w' S v1 v3 F (n + 1) e d' ∧ Hp n d' ∧ Pm n d d' ∧ w.grownBy w' (F.map (·.block)) := by
  go_enter Try.func34, Try.ntmps34
  go_wp2_with fail
  go_loopw [7] (fun x w' => ∃ (i : Nat) (d' : Nat → Nat), i ≤ n ∧ x = .int .i64 (i : Int) ∧ Fre w' S v1 v3 F (n + 1) e d' ∧ DnI n i d' ∧ Pm n d d' ∧ w.grownBy w' (F.map (·.block))) (fun x _ => n - (intOf x).toNat)
  case atStart => exact ⟨0, d, Nat.zero_le _, rfl, h, hu, Pm.refl _ _, World.grownBy.refl _ _⟩
  case round =>
    clear h hu
    obtain ⟨i, d', hi, rfl, h, hu, hp, hg⟩ := hrel
    have x1 := h.c1
    obtain ⟨k, hk⟩ : ∃ k : Nat, k = 2 * i + 1 := ⟨_, rfl⟩
    have hE : 2 * (i : Int) + 1 = (k : Int) := by omega
    by_cases hkn : k < n
    · have hd1 : decide ((n : Int) ≤ (k : Int)) = false := decide_eq_false (by omega)
      have hd2 : decide ((k : Int) < 0) = false := decide_eq_false (by omega)
      obtain ⟨k2, hk2⟩ : ∃ k2 : Nat, k2 = k + 1 := ⟨_, rfl⟩
      have hE2 : (k : Int) + 1 = (k2 : Int) := by omega
      have hi2 : i < n + 1 := by omega
      have hkn2 : k < n + 1 := by omega
      have qm := fun n q => meth_less n ⟨S, 1, none⟩ _ (wr.drewN q) (show (wr.drewN q).cell? ⟨S, 1, none⟩ = _ from x1)
      have qm0 := fun n => meth_less n ⟨S, 1, none⟩ _ wr x1
      have qs := fun n q => meth_swap n ⟨S, 1, none⟩ _ (wr.drewN q) (show (wr.drewN q).cell? ⟨S, 1, none⟩ = _ from x1)
      by_cases c1 : k2 < n
      · have hd4 : decide ((k2 : Int) < (n : Int)) = true := decide_eq_true (by omega)
        have hk2n : k2 < n + 1 := by omega
        have HL1 := Lib.hid (less_any h k2 k hk2n hkn2 hm)
        by_cases c2 : d' k2 < d' k
        · have hd5 : decide (d' k2 < d' k) = true := decide_eq_true c2
          have hc : ∀ x, 0 < x → x < n → (x - 1) / 2 = i → d' k2 ≤ d' x := fun x x0 xn xe => by
            have : x = k ∨ x = k2 := by omega
            rcases this with rfl | rfl <;> omega
          have HL2 := Lib.hid (fun q => less_any (h.drewN q) k2 i hk2n hi2 hm)
          by_cases c3 : d' k2 < d' i
          · have hd3 : decide (d' k2 < d' i) = true := decide_eq_true c3
            have HU := Lib.hid (hu.step (j := k2) (by omega) (by omega) (by omega) c3 hc)
            have hps := Lib.hid (hp.trans (Pm.swp d' (show i < n by omega) (show k2 < n by omega)))
            have HS := Lib.hid (fun q => swap_any (h.drewN q) i k2 hi2 hk2n hm)
            have hlt2 : i < k2 := by omega
            have hjn2 : k2 ≤ n := by omega
            have HC := Lib.hid hc
            clear hc
            clear hu h hp hk hk2 c3
            go_wp2_with (first | (go_at_call 52; (with_reducible refine (HL1.out).mono ?_); rintro r w' ⟨rfl, q, rfl⟩) | (go_at_call 52; (with_reducible refine (HL2.out _).mono ?_); rintro r w' ⟨rfl, q, rfl⟩) | (go_at_call 53; (with_reducible refine (HS.out _).mono ?_); rintro r w' ⟨rfl, hF, hG⟩; replace hF := Lib.hid hF; replace hG := Lib.hid hG))
            exact ⟨⟨k2, _, hjn2, rfl, hF.out, HU.out, hps.out, hg.trans (gr_drewN hG.out)⟩, by simp [intOf]; omega⟩
          · have hd3 : decide (d' k2 < d' i) = false := decide_eq_false c3
            have HP := Lib.hid (hu.done (fun x x0 xn xe => by have := hc x x0 xn xe; omega))
            have HC := Lib.hid hc
            clear hc
            clear hu hk hk2 c3
            go_wp2_with (first | (go_at_call 52; (with_reducible refine (HL1.out).mono ?_); rintro r w' ⟨rfl, q, rfl⟩) | (go_at_call 52; (with_reducible refine (HL2.out _).mono ?_); rintro r w' ⟨rfl, q, rfl⟩))
            go_ret
            exact ⟨_, rfl, d', h.drewN _, HP.out, hp, ⟨hg.os, hg.tape, hg.output, hg.size, hg.block⟩⟩
        · have hd5 : decide (d' k2 < d' k) = false := decide_eq_false c2
          have hc : ∀ x, 0 < x → x < n → (x - 1) / 2 = i → d' k ≤ d' x := fun x x0 xn xe => by
            have : x = k ∨ x = k2 := by omega
            rcases this with rfl | rfl <;> omega
          have HL2 := Lib.hid (fun q => less_any (h.drewN q) k i hkn2 hi2 hm)
          by_cases c3 : d' k < d' i
          · have hd3 : decide (d' k < d' i) = true := decide_eq_true c3
            have HU := Lib.hid (hu.step (j := k) (by omega) (by omega) (by omega) c3 hc)
            have hps := Lib.hid (hp.trans (Pm.swp d' (show i < n by omega) (show k < n by omega)))
            have HS := Lib.hid (fun q => swap_any (h.drewN q) i k hi2 hkn2 hm)
            have hlt2 : i < k := by omega
            have hjn2 : k ≤ n := by omega
            have HC := Lib.hid hc
            clear hc
            clear hu h hp hk hk2 c3
            go_wp2_with (first | (go_at_call 52; (with_reducible refine (HL1.out).mono ?_); rintro r w' ⟨rfl, q, rfl⟩) | (go_at_call 52; (with_reducible refine (HL2.out _).mono ?_); rintro r w' ⟨rfl, q, rfl⟩) | (go_at_call 53; (with_reducible refine (HS.out _).mono ?_); rintro r w' ⟨rfl, hF, hG⟩; replace hF := Lib.hid hF; replace hG := Lib.hid hG))
            exact ⟨⟨k, _, hjn2, rfl, hF.out, HU.out, hps.out, hg.trans (gr_drewN hG.out)⟩, by simp [intOf]; omega⟩
          · have hd3 : decide (d' k < d' i) = false := decide_eq_false c3
            have HP := Lib.hid (hu.done (fun x x0 xn xe => by have := hc x x0 xn xe; omega))
            have HC := Lib.hid hc
            clear hc
            clear hu hk hk2 c3
            go_wp2_with (first | (go_at_call 52; (with_reducible refine (HL1.out).mono ?_); rintro r w' ⟨rfl, q, rfl⟩) | (go_at_call 52; (with_reducible refine (HL2.out _).mono ?_); rintro r w' ⟨rfl, q, rfl⟩))
            go_ret
            exact ⟨_, rfl, d', h.drewN _, HP.out, hp, ⟨hg.os, hg.tape, hg.output, hg.size, hg.block⟩⟩
      · have hd4 : decide ((k2 : Int) < (n : Int)) = false := decide_eq_false (by omega)
        have hc : ∀ x, 0 < x → x < n → (x - 1) / 2 = i → d' k ≤ d' x := fun x x0 xn xe => by
          have : x = k := by omega
          rw [this]
          exact Nat.le_refl _
        have HL3 := Lib.hid (less_any h k i hkn2 hi2 hm)
        have HS0 := Lib.hid (fun q => swap_any (h.drewN q) i k hi2 hkn2 hm)
        by_cases c3 : d' k < d' i
        · have hd3 : decide (d' k < d' i) = true := decide_eq_true c3
          have HU := Lib.hid (hu.step (j := k) (by omega) (by omega) (by omega) c3 hc)
          have hps := Lib.hid (hp.trans (Pm.swp d' (show i < n by omega) (show k < n by omega)))
          have HS := Lib.hid (fun q => swap_any (h.drewN q) i k hi2 hkn2 hm)
          have hlt2 : i < k := by omega
          have hjn2 : k ≤ n := by omega
          have HC := Lib.hid hc
          clear hc
          clear hu h hp hk hk2 c3
          go_wp2_with (first | (go_at_call 52; (with_reducible refine (HL3.out).mono ?_); rintro r w' ⟨rfl, q, rfl⟩) | (go_at_call 53; (with_reducible refine (HS.out _).mono ?_); rintro r w' ⟨rfl, hF, hG⟩; replace hF := Lib.hid hF; replace hG := Lib.hid hG))
          exact ⟨⟨k, _, hjn2, rfl, hF.out, HU.out, hps.out, hg.trans (gr_drewN hG.out)⟩, by simp [intOf]; omega⟩
        · have hd3 : decide (d' k < d' i) = false := decide_eq_false c3
          have HP := Lib.hid (hu.done (fun x x0 xn xe => by have := hc x x0 xn xe; omega))
          have HC := Lib.hid hc
          clear hc
          clear hu hk hk2 c3
          go_wp2_with (first | (go_at_call 52; (with_reducible refine (HL3.out).mono ?_); rintro r w' ⟨rfl, q, rfl⟩))
          go_ret
          exact ⟨_, rfl, d', h.drewN _, HP.out, hp, ⟨hg.os, hg.tape, hg.output, hg.size, hg.block⟩⟩
    · have hd1 : decide ((n : Int) ≤ (k : Int)) = true := decide_eq_true (by omega)
      have HP := Lib.hid (hu.done (fun x x0 xn xe => by omega))
      clear hu hk
      go_wp2
      go_ret
      exact ⟨_, rfl, d', h, HP.out, hp, hg⟩
end Go.Proofs.Ytacanobhfebnaaa
