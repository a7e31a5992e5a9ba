/-
  THE LAW StoreCounts.
-/
import Derived.Test.YtacanobhfebnaaaLowB
namespace Go.Proofs.Ytacanobhfebnaaa
open Go.RowKit
open St

/-- One slot that is counted c times. -/
def Mc (b : ByteArray) (c : Int) : List Slt := [⟨1, c, if c = 0 then ⟨#[]⟩ else b⟩]
set_option maxRecDepth 100000 in
theorem mc_gt (b : ByteArray) (c : Int) : gt (Mc b c) 0 = ⟨1, c, if c = 0 then ⟨#[]⟩ else b⟩ := rfl
set_option maxRecDepth 100000 in
theorem mc_err (b : ByteArray) {c : Int} (h : c ≠ 0) : err (Mc b c) 0 1 = 0 := by
  unfold err
  rw [if_neg, if_pos]
  · rfl
  · rintro (h1 | h1 | h1)
    · omega
    · simp [Mc] at h1
    · exact h h1
set_option maxRecDepth 100000 in
theorem mc_err0 (b : ByteArray) : err (Mc b 0) 0 1 = 4 := by
  unfold err
  rw [if_pos (.inr (.inr rfl))]
set_option maxRecDepth 100000 in
theorem mc_get (b : ByteArray) {c : Int} (h : c ≠ 0) : getL (Mc b c) 0 1 = b := by
  unfold getL
  rw [if_pos (mc_err b h)]
  show (if c = 0 then (⟨#[]⟩ : ByteArray) else b) = b
  rw [if_neg h]
set_option maxRecDepth 100000 in
theorem mc_get0 (b : ByteArray) : getL (Mc b 0) 0 1 = ⟨#[]⟩ := by
  unfold getL
  rw [mc_err0, if_neg (by omega)]
set_option maxRecDepth 100000 in
theorem mc_cnt (b : ByteArray) {c : Int} (h : c ≠ 0) (k : Int) : cntL (Mc b c) 0 k = Mc b (c + k) := by
  unfold cntL
  rw [mc_gt]
  simp only
  rw [if_neg h]
  rfl
set_option maxRecDepth 100000 in
theorem mc_bd {b : ByteArray} (hb : b.size ≤ 400) {c : Int} (h : 0 ≤ c) (h2 : c ≤ 200) : Bd 300 (Mc b c) := by
  have key : ∀ i, i < (Mc b c).length → gt (Mc b c) i = ⟨1, c, if c = 0 then ⟨#[]⟩ else b⟩ := fun i hi => by
    have : i = 0 := by simpa [Mc] using hi
    subst this
    rfl
  refine ⟨by simp [Mc], fun i hi => ?_, fun i hi => ?_, fun i hi => ?_, fun i hi => ?_⟩ <;> rw [key i hi]
  · simp
  · simp only; omega
  · show (if c = 0 then (⟨#[]⟩ : ByteArray) else b).size ≤ 400
    split
    · exact Nat.zero_le _
    · exact hb
  · intro hc
    simp only at hc ⊢
    rw [if_pos hc]
set_option maxRecDepth 100000 in
theorem mc_usd (b : ByteArray) {c : Int} (h : 0 < c) : (usd (Mc b c) : Int) = 1 := by simp [Mc, usd, h]
set_option maxRecDepth 100000 in
theorem mc_usd0 (b : ByteArray) : (usd (Mc b 0) : Int) = 0 := by simp [Mc, usd]
set_option maxRecDepth 100000 in
theorem mc_sum0 (b : ByteArray) : (sumb (Mc b 0) : Int) = 0 := rfl

set_option maxRecDepth 100000 in
set_option maxRecDepth 100000 in
set_option maxHeartbeats 4000000 in
theorem storeCounts_walk (x : Int) (b : ByteArray) (hbl : b.size ≤ maxLen) (W : World) :
    Calls Try.prog 5 #[.int .i64 x, .string b] W fun r w' => r = .returned (.bool true) ∧ Below W.heap.size W w' := by
  have hbl2 : b.size ≤ 9223372036854775807 := hbl
  by_cases hb : 400 < b.size
  · have hd : decide ((400 : Int) < (b.size : Int)) = true := decide_eq_true (by omega)
    go_enter Try.func5, Try.ntmps5
    go_wp2_with (go_at_call 8; (with_reducible refine (awake10 _).mono ?_); rintro r w1 ⟨rfl, hb⟩)
    go_ret
    exact ⟨rfl, hb⟩
  · have hd : decide ((400 : Int) < (b.size : Int)) = false := decide_eq_false (by omega)
    have hb4 : b.size ≤ 400 := by omega
    obtain ⟨m, hm, hlow⟩ := low_int x 100 (by omega) (by omega)
    have HL := Lib.hid hlow
    have HN := Lib.hid (newQ W)
    have P1 := Lib.hid (fun (w : World) (h : StQ W w W.heap.size []) => h.put (Bd.nil.mono (T' := 300) (by omega)) (by omega) b hb4 (x := 0) (y := 1) (L' := Mc b 1) rfl rfl rfl)
    clear hlow hbl hbl2
    go_enter Try.func5, Try.ntmps5
    go_wp2_with (first
      | (go_at_call 25; (with_reducible refine (HL.out _).mono ?_); rintro r w1 ⟨rfl, rfl⟩)
      | (go_at_call 9; (with_reducible refine HN.out.mono ?_); rintro r w1 ⟨rfl, q1⟩; replace q1 := Lib.hid q1)
      | (go_at_call 10; (with_reducible refine (P1.out _ q1.out).mono ?_); rintro r w2 ⟨rfl, q2⟩; replace q2 := Lib.hid q2))
    go_loopw [9] (fun x w' => ∃ i : Nat, i ≤ m ∧ x = .int .i64 (i : Int) ∧ StQ W w' W.heap.size (Mc b (1 + (i : Int)))) (fun x _ => m - (intOf x).toNat)
    case atStart => exact ⟨0, Nat.zero_le _, rfl, q2.out⟩
    case round =>
      clear q1 q2 P1 HN HL
      obtain ⟨i, hi, rfl, q⟩ := hrel
      by_cases him : i < m
      · have hd1 : decide ((i : Int) < (m : Int)) = true := decide_eq_true (by omega)
        have HI := Lib.hid (q.inc (mc_bd hb4 (c := 1 + (i : Int)) (by omega) (by omega)) (by omega) 0 1 (mc_err b (by omega)) (L' := Mc b (1 + (i : Int) + 1)) (by rw [if_pos rfl]; exact mc_cnt b (by omega) 1))
        clear q
        go_wp2_with (go_at_call 13; (with_reducible refine HI.out.mono ?_); rintro r w3 ⟨rfl, q3⟩; replace q3 := Lib.hid q3)
        exact ⟨⟨i + 1, by omega, rfl, by rw [show (1 : Int) + ((i + 1 : Nat) : Int) = 1 + (i : Int) + 1 by omega]; exact q3.out⟩, by simp [intOf]; omega⟩
      · have hd1 : decide ((i : Int) < (m : Int)) = false := decide_eq_false (by omega)
        have e : i = m := by omega
        subst e
        go_wp2_with fail
        go_loopw [10] (fun x w' => ∃ j : Nat, j ≤ i + 1 ∧ x = .int .i64 (j : Int) ∧ StQ W w' W.heap.size (Mc b (1 + (i : Int) - (j : Int)))) (fun x _ => i + 1 - (intOf x).toNat)
        case atStart => exact ⟨0, Nat.zero_le _, rfl, by rw [show (1 : Int) + (i : Int) - ((0 : Nat) : Int) = 1 + (i : Int) by omega]; exact q⟩
        case round =>
          clear q
          obtain ⟨j, hj, rfl, q⟩ := hrel
          by_cases hji : j ≤ i
          · have hd2 : decide ((j : Int) ≤ (i : Int)) = true := decide_eq_true (by omega)
            have hbd := mc_bd hb4 (c := 1 + (i : Int) - (j : Int)) (by omega) (by omega)
            have G := Lib.hid (q.get hbd (by omega) 0 1 (mc_err b (by omega)) (mc_get b (by omega)))
            have N := Lib.hid (q.len hbd (by omega) (mc_usd b (by omega)))
            have D := Lib.hid (fun (w : World) (q : StQ W w W.heap.size (Mc b (1 + (i : Int) - (j : Int)))) => q.dec hbd (by omega) 0 1 (mc_err b (by omega)) (L' := Mc b (1 + (i : Int) - (j : Int) + -1)) (by rw [if_pos rfl]; exact mc_cnt b (by omega) (-1)))
            clear q hbd
            go_wp2_with (first
              | (go_at_call 16; (with_reducible refine G.out.mono ?_); rintro r w3 ⟨rfl, rfl⟩)
              | (go_at_call 21; (with_reducible refine N.out.mono ?_); rintro r w4 ⟨rfl, q4⟩; replace q4 := Lib.hid q4)
              | (go_at_call 15; (with_reducible refine (D.out _ q4.out).mono ?_); rintro r w5 ⟨rfl, q5⟩; replace q5 := Lib.hid q5))
            exact ⟨⟨j + 1, by omega, rfl, by rw [show (1 : Int) + (i : Int) - ((j + 1 : Nat) : Int) = 1 + (i : Int) - (j : Int) + -1 by omega]; exact q5.out⟩, by simp [intOf]; omega⟩
          · have hd2 : decide ((j : Int) ≤ (i : Int)) = false := decide_eq_false (by omega)
            have e : j = i + 1 := by omega
            subst e
            rw [show (1 : Int) + (i : Int) - ((i + 1 : Nat) : Int) = 0 by omega] at q
            have hbd := mc_bd hb4 (c := 0) (by omega) (by omega)
            have G := Lib.hid (q.get hbd (by omega) 0 1 (mc_err0 b) (mc_get0 b))
            have N := Lib.hid (q.len hbd (by omega) (mc_usd0 b))
            have Y := Lib.hid (fun (w : World) (q : StQ W w W.heap.size (Mc b 0)) => q.bytes (mc_sum0 b))
            have D := Lib.hid (fun (w : World) (q : StQ W w W.heap.size (Mc b 0)) => q.dec hbd (by omega) 0 1 (mc_err0 b) (L' := Mc b 0) (by rw [if_neg (by omega)]))
            clear q hbd
            go_wp2_with (first
              | (go_at_call 16; (with_reducible refine G.out.mono ?_); rintro r w3 ⟨rfl, rfl⟩)
              | (go_at_call 21; (with_reducible refine N.out.mono ?_); rintro r w4 ⟨rfl, q4⟩; replace q4 := Lib.hid q4)
              | (go_at_call 19; (with_reducible refine (Y.out _ q4.out).mono ?_); rintro r w4 ⟨rfl, rfl⟩)
              | (go_at_call 15; (with_reducible refine (D.out _ q4.out).mono ?_); rintro r w5 ⟨rfl, q5⟩; replace q5 := Lib.hid q5)
              | (go_at_call 8; (with_reducible refine (awake10 _).mono ?_); rintro r w6 ⟨rfl, hb6⟩))
            go_ret
            exact ⟨rfl, q5.out.below.trans (hb6.mono q5.out.below.size)⟩
end Go.Proofs.Ytacanobhfebnaaa
