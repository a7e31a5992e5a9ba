/-
  THE LAW StoreLeast.
-/
import Derived.Test.YtacanobhfebnaaaLowB
namespace Go.Proofs.Ytacanobhfebnaaa
open Go.RowKit
open St

/-- So many slots with the same bytes. -/
def rep (k : Nat) (b : ByteArray) : List Slt := List.replicate k ⟨1, 1, b⟩
set_option maxRecDepth 100000 in
theorem rep_len (k : Nat) (b : ByteArray) : (rep k b).length = k := by simp [rep]
set_option maxRecDepth 100000 in
theorem rep_gt {k i : Nat} (b : ByteArray) (h : i < k) : gt (rep k b) i = ⟨1, 1, b⟩ := by simp [rep, gt, h]
set_option maxRecDepth 100000 in
theorem rep_fr (k : Nat) (b : ByteArray) : fr (rep k b) = k := fr_eq (by rw [rep_len]; exact Nat.le_refl _) (fun i hi => by rw [rep_gt b hi]; simp) (fun h => by rw [rep_len] at h; omega)
set_option maxRecDepth 100000 in
theorem rep_put (k : Nat) (b : ByteArray) : putL (rep k b) b = rep (k + 1) b := by
  unfold putL
  rw [rep_fr, rep_len, if_neg (by omega)]
  simp [rep, List.replicate_succ']
set_option maxRecDepth 100000 in
theorem rep_bd {k : Nat} {b : ByteArray} (hk : k ≤ 350) (hb : b.size ≤ 400) : Bd 400 (rep k b) := by
  have key : ∀ i, i < (rep k b).length → gt (rep k b) i = ⟨1, 1, b⟩ := fun i hi => rep_gt b (by rw [rep_len] at hi; exact hi)
  refine ⟨by rw [rep_len]; omega, fun i hi => ?_, fun i hi => ?_, fun i hi => ?_, fun i hi hc => ?_⟩
  · rw [key i hi]; simp
  · rw [key i hi]; simp
  · rw [key i hi]; exact hb
  · rw [key i hi] at hc; simp at hc
set_option maxRecDepth 100000 in
theorem rep_sum (k : Nat) (b : ByteArray) : sumb (rep k b) = k * b.size := by
  induction k with
  | zero => simp [rep, sumb]
  | succ k ih =>
    rw [← rep_put]
    unfold putL
    rw [rep_fr, rep_len, if_neg (by omega), sumb_snoc, ih, Nat.succ_mul]
set_option maxRecDepth 100000 in
theorem rep_usd (k : Nat) (b : ByteArray) : usd (rep k b) = k := by
  induction k with
  | zero => simp [rep, usd]
  | succ k ih =>
    rw [← rep_put]
    unfold putL
    rw [rep_fr, rep_len, if_neg (by omega), usd_snoc, ih]
    simp
section
variable {k q : Nat} (b : ByteArray) (hq : q < k)
/-- One of them has turned. -/
def rps (k q : Nat) (b : ByteArray) (s : Slt) : List Slt := (rep k b).set q s
set_option maxRecDepth 100000 in
theorem rps_len (k q : Nat) (b : ByteArray) (s : Slt) : (rps k q b s).length = k := by simp [rps, rep]
set_option maxRecDepth 100000 in
theorem rps_other (s : Slt) {i : Nat} (hi : i < k) (hne : q ≠ i) : gt (rps k q b s) i = ⟨1, 1, b⟩ := by
  unfold rps
  rw [gt_set_other _ hne, rep_gt b hi]
set_option maxRecDepth 100000 in
theorem rps_bd (s : Slt) (hk : k ≤ 350) (hb : b.size ≤ 400) (h1 : 0 ≤ s.st ∧ s.st ≤ 100) (h2 : s.ct ≤ 100) (h3 : s.tx.size ≤ 400) (h4 : s.ct = 0 → s.tx = ⟨#[]⟩) : Bd 401 (rps k q b s) :=
  (rep_bd hk hb).set q s (by omega) (by omega) h3 h4
include hq
set_option maxRecDepth 100000 in
theorem rps_same (s : Slt) : gt (rps k q b s) q = s := gt_set_same _ (by rw [rep_len]; exact hq)
set_option maxRecDepth 100000 in
theorem rps_cnt : cntL (rep k b) q (-1) = rps k q b ⟨1, 0, ⟨#[]⟩⟩ := by
  unfold cntL
  rw [rep_gt b hq]
  rfl
set_option maxRecDepth 100000 in
theorem rps_err1 : err (rep k b) (q : Int) 1 = 0 := by
  unfold err
  rw [rep_len, show ((q : Int)).toNat = q by omega, rep_gt b hq, if_neg (by rintro (h | h | h) <;> first | omega | (simp at h)), if_pos rfl]
set_option maxRecDepth 100000 in
theorem rps_fr2 : fr (rps k q b ⟨1, 0, ⟨#[]⟩⟩) = q :=
  fr_eq (by rw [rps_len]; omega) (fun i hi => by rw [rps_other b _ (by omega) (by omega)]; simp) (fun _ => by rw [rps_same b hq]; simp)
set_option maxRecDepth 100000 in
theorem rps_put (t : ByteArray) : putL (rps k q b ⟨1, 0, ⟨#[]⟩⟩) t = rps k q b ⟨2, 1, t⟩ := by
  unfold putL
  rw [rps_fr2 b hq, rps_len, if_pos hq, rps_same b hq]
  unfold rps
  rw [List.set_set]
  rfl
set_option maxRecDepth 100000 in
theorem rps_err3 (t : ByteArray) : err (rps k q b ⟨2, 1, t⟩) (q : Int) 1 = 6 := by
  unfold err
  rw [rps_len, show ((q : Int)).toNat = q by omega, rps_same b hq, if_neg (by rintro (h | h | h) <;> first | omega | (simp at h)), if_neg (by simp)]
set_option maxRecDepth 100000 in
theorem rps_err4 (t : ByteArray) : err (rps k q b ⟨2, 1, t⟩) (q : Int) 2 = 0 := by
  unfold err
  rw [rps_len, show ((q : Int)).toNat = q by omega, rps_same b hq, if_neg (by rintro (h | h | h) <;> first | omega | (simp at h)), if_pos rfl]
set_option maxRecDepth 100000 in
theorem rps_get (t : ByteArray) : getL (rps k q b ⟨2, 1, t⟩) (q : Int) 2 = t := by
  unfold getL
  rw [rps_err4 b hq, if_pos rfl, show ((q : Int)).toNat = q by omega, rps_same b hq]
set_option maxRecDepth 100000 in
theorem rps_fr3 (t : ByteArray) : fr (rps k q b ⟨2, 1, t⟩) = k :=
  fr_eq (by rw [rps_len]; exact Nat.le_refl _) (fun i hi => by
    by_cases e : q = i
    · subst e; rw [rps_same b hq]; simp
    · rw [rps_other b _ hi e]; simp) (fun h => by rw [rps_len] at h; omega)
set_option maxRecDepth 100000 in
theorem rps_put3 (t u : ByteArray) : putL (rps k q b ⟨2, 1, t⟩) u = rps k q b ⟨2, 1, t⟩ ++ [⟨1, 1, u⟩] := by
  unfold putL
  rw [rps_fr3 b hq, rps_len, if_neg (by omega)]
set_option maxRecDepth 100000 in
theorem rps_sum (t : ByteArray) : sumb (rps k q b ⟨2, 1, t⟩) + b.size = k * b.size + t.size := by
  have := sumb_set (rep k b) q ⟨2, 1, t⟩ (by rw [rep_len]; exact hq)
  rw [rep_gt b hq, rep_sum] at this
  exact this
set_option maxRecDepth 100000 in
theorem rps_usd (t : ByteArray) : usd (rps k q b ⟨2, 1, t⟩) = k := by
  have := usd_set (rep k b) q ⟨2, 1, t⟩ (by rw [rep_len]; exact hq)
  rw [rep_gt b hq, rep_usd] at this
  simp at this
  exact this
end

set_option maxRecDepth 100000 in
set_option maxRecDepth 100000 in
set_option maxHeartbeats 4000000 in
theorem storeLeast_walk (x y : Int) (b : ByteArray) (hbl : b.size ≤ maxLen) (W : World) :
    Calls Try.prog 4 #[.int .i64 x, .int .i64 y, .string b] W fun r w' => r = .returned (.bool true) ∧ Below W.heap.size W w' := by
  have hbl2 : b.size ≤ 9223372036854775807 := hbl
  by_cases hb : 400 < b.size
  · have hd : decide ((400 : Int) < (b.size : Int)) = true := decide_eq_true (by omega)
    go_enter Try.func4, Try.ntmps4
    go_wp2_with (go_at_call 8; (with_reducible refine (awake10 _).mono ?_); rintro r w1 ⟨rfl, hb⟩)
    go_ret
    exact ⟨rfl, hb⟩
  · have hd : decide ((400 : Int) < (b.size : Int)) = false := decide_eq_false (by omega)
    have hb4 : b.size ≤ 400 := by omega
    obtain ⟨m0, hm0, hlow⟩ := low_int x 300 (by omega) (by omega)
    obtain ⟨m, hm⟩ : ∃ m, m = m0 + 1 := ⟨_, rfl⟩
    have hE : (1 : Int) + (m0 : Int) = (m : Int) := by omega
    have hE2 : (m : Int) - 1 = (m0 : Int) := by omega
    obtain ⟨q, hq, hlow2⟩ := low_int y m (by omega) (by omega)
    have hqm : q < m := by omega
    have hm300 : m ≤ 300 := by omega
    obtain ⟨p, hp⟩ : ∃ p : Nat, p = m0 * b.size := ⟨_, rfl⟩
    have hp2 : p ≤ 300 * 400 := by rw [hp]; exact Nat.mul_le_mul (by omega) hb4
    have hP : (m0 : Int) * (b.size : Int) = (p : Int) := by rw [hp]; exact (Int.natCast_mul _ _).symm
    have hsum : sumb (rps m q b ⟨2, 1, ⟨#[120]⟩⟩) = p + 1 := by
      have h1 := rps_sum b hqm ⟨#[120]⟩
      have h2 : (⟨#[120]⟩ : ByteArray).size = 1 := rfl
      rw [hm, Nat.succ_mul, ← hp, h2, ← hm] at h1
      omega
    have HL := Lib.hid hlow
    have HL2 := Lib.hid hlow2
    have HN := Lib.hid (newQ W)
    have L4 : Bd 402 (rps m q b ⟨2, 1, ⟨#[120]⟩⟩ ++ [⟨1, 1, ⟨#[]⟩⟩]) := by
      have := (rps_bd b (k := m) (q := q) ⟨2, 1, ⟨#[120]⟩⟩ (by omega) hb4 (by simp) (by simp) (by simp; decide) (by simp)).put (by omega) ⟨#[]⟩ (by decide)
      rw [rps_put3 b hqm] at this
      exact this
    have S1 := Lib.hid (fun (i : Nat) (hi : i < m) (w : World) (h : StQ W w W.heap.size (rep i b)) => h.put (rep_bd (by omega) hb4) (by omega) b hb4 (x := (i : Int)) (y := 1) (L' := rep (i + 1) b) (by rw [rep_fr]) (rep_put i b) (by rw [rep_fr, rep_gt b (by omega)]))
    have S2 := Lib.hid (fun (w : World) (h : StQ W w W.heap.size (rep m b)) => h.dec (rep_bd (by omega) hb4) (by omega) (q : Int) 1 (x := 0) (L' := rps m q b ⟨1, 0, ⟨#[]⟩⟩) (rps_err1 b hqm) (by rw [if_pos rfl, show ((q : Int)).toNat = q by omega]; exact rps_cnt b hqm))
    have S3 := Lib.hid (fun (w : World) (h : StQ W w W.heap.size (rps m q b ⟨1, 0, ⟨#[]⟩⟩)) => h.put (rps_bd b _ (by omega) hb4 (by simp) (by simp) (by decide) (by simp)) (by omega) ⟨#[120]⟩ (by decide) (x := (q : Int)) (y := 2) (L' := rps m q b ⟨2, 1, ⟨#[120]⟩⟩) (by rw [rps_fr2 b hqm]) (rps_put b hqm _) (by rw [rps_fr2 b hqm, rps_same b hqm]))
    have S4 := Lib.hid (fun (w : World) (h : StQ W w W.heap.size (rps m q b ⟨2, 1, ⟨#[120]⟩⟩)) => h.inc (rps_bd b _ (by omega) hb4 (by simp) (by simp) (by simp; decide) (by simp)) (by omega) (q : Int) 1 (x := 6) (L' := rps m q b ⟨2, 1, ⟨#[120]⟩⟩) (rps_err3 b hqm _) (by rw [if_neg (by omega)]))
    have S5 := Lib.hid (fun (w : World) (h : StQ W w W.heap.size (rps m q b ⟨2, 1, ⟨#[120]⟩⟩)) => h.get (rps_bd b _ (by omega) hb4 (by simp) (by simp) (by simp; decide) (by simp)) (by omega) (q : Int) 2 (x := 0) (t := ⟨#[120]⟩) (rps_err4 b hqm _) (rps_get b hqm _))
    have S6 := Lib.hid (fun (w : World) (h : StQ W w W.heap.size (rps m q b ⟨2, 1, ⟨#[120]⟩⟩)) => h.put (rps_bd b _ (by omega) hb4 (by simp) (by simp) (by simp; decide) (by simp)) (by omega) ⟨#[]⟩ (by decide) (x := (m : Int)) (y := 1) (L' := rps m q b ⟨2, 1, ⟨#[120]⟩⟩ ++ [⟨1, 1, ⟨#[]⟩⟩]) (by rw [rps_fr3 b hqm]) (rps_put3 b hqm _ _) (by
      have e := gt_new (rps m q b ⟨2, 1, ⟨#[120]⟩⟩) ⟨1, 1, ⟨#[]⟩⟩
      rw [rps_len] at e
      rw [rps_fr3 b hqm, e]))
    have S7 := Lib.hid (fun (w : World) (h : StQ W w W.heap.size (rps m q b ⟨2, 1, ⟨#[120]⟩⟩ ++ [⟨1, 1, ⟨#[]⟩⟩])) => h.bytes (x := (p : Int) + 1) (by
      rw [sumb_snoc, hsum]
      rfl))
    have S8 := Lib.hid (fun (w : World) (h : StQ W w W.heap.size (rps m q b ⟨2, 1, ⟨#[120]⟩⟩ ++ [⟨1, 1, ⟨#[]⟩⟩])) => h.len L4 (by omega) (x := (m : Int) + 1) (by rw [usd_snoc, rps_usd b hqm]; simp))
    clear hlow hlow2 hbl hbl2 hm hp hsum L4
    go_enter Try.func4, Try.ntmps4
    go_wp2_with (first
      | (go_at_call 25; first | ((with_reducible refine (HL.out _).mono ?_); rintro r w1 ⟨rfl, rfl⟩) | ((with_reducible refine (HL2.out _).mono ?_); rintro r w1 ⟨rfl, rfl⟩))
      | (go_at_call 9; (with_reducible refine HN.out.mono ?_); rintro r w1 ⟨rfl, q1⟩; replace q1 := Lib.hid q1))
    go_loopw [8] (fun x w' => ∃ i : Nat, i ≤ m ∧ x = .int .i64 (i : Int) ∧ StQ W w' W.heap.size (rep i b)) (fun x _ => m - (intOf x).toNat)
    case atStart => exact ⟨0, Nat.zero_le _, rfl, q1.out⟩
    case round =>
      clear q1 HN HL HL2
      obtain ⟨i, hi, rfl, h⟩ := hrel
      by_cases him : i < m
      · have hd1 : decide ((i : Int) < (m : Int)) = true := decide_eq_true (by omega)
        have HI := Lib.hid (S1.out i him _ h)
        clear h S1 S2 S3 S4 S5 S6 S7 S8
        go_wp2_with (go_at_call 10; (with_reducible refine HI.out.mono ?_); rintro r w3 ⟨rfl, q3⟩; replace q3 := Lib.hid q3)
        exact ⟨⟨i + 1, by omega, rfl, q3.out⟩, by simp [intOf]; omega⟩
      · have hd1 : decide ((i : Int) < (m : Int)) = false := decide_eq_false (by omega)
        have e : i = m := by omega
        subst e
        have h := Lib.hid h
        clear S1
        go_wp2_with (first
          | (go_at_call 15; (with_reducible refine (S2.out _ h.out).mono ?_); rintro r w3 ⟨rfl, q3⟩; replace q3 := Lib.hid q3)
          | (go_at_call 10; first | ((with_reducible refine (S3.out _ q3.out).mono ?_); rintro r w4 ⟨rfl, q4⟩; replace q4 := Lib.hid q4; clear q3) | ((with_reducible refine (S6.out _ q5.out).mono ?_); rintro r w6 ⟨rfl, q6⟩; replace q6 := Lib.hid q6))
          | (go_at_call 13; (with_reducible refine (S4.out _ q4.out).mono ?_); rintro r w5 ⟨rfl, q5⟩; replace q5 := Lib.hid q5)
          | (go_at_call 16; (with_reducible refine (S5.out _ q5.out).mono ?_); rintro r w3 ⟨rfl, rfl⟩)
          | (go_at_call 19; (with_reducible refine (S7.out _ q6.out).mono ?_); rintro r w3 ⟨rfl, rfl⟩)
          | (go_at_call 21; (with_reducible refine (S8.out _ q6.out).mono ?_); rintro r w7 ⟨rfl, q7⟩; replace q7 := Lib.hid q7)
          | (go_at_call 8; (with_reducible refine (awake10 _).mono ?_); rintro r w8 ⟨rfl, hb8⟩))
        go_ret
        exact ⟨rfl, q7.out.below.trans (hb8.mono q7.out.below.size)⟩
end Go.Proofs.Ytacanobhfebnaaa
