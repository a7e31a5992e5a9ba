/-
  SUMS, PRODUCTS, QUOTIENTS BY POWERS OF TWO, FLOORS (no Go here).
-/
import Derived.Test.YtompimbeaeinbaaGreatFltC
namespace Go.Proofs.YtompimbeaeinbaaGreat
namespace Fl
open Ieee

theorem pos_ng {a : Nat} (h : a < S) : ng a = false := by unfold ng; rw [Nat.div_eq_of_lt h]; rfl
theorem pos_rg {a : Nat} (h : a < S) : rg a = a := Nat.mod_eq_of_lt h
theorem word_false (r : Nat) : double.word false r = r := rfl

theorem near0 (s : Bool) (m k : Nat) : double.nearest s m (-1074 + (k : Int)) = double.word s (R (m * 2 ^ k) 0) := by
  have := nearest_R s m 0 k
  simpa using this

theorem add_fin {a b : Nat} (ha : rg a < INF) (hb : rg b < INF) :
    double.add a b = some (double.word (if sv a + sv b = 0 then ng a && ng b else decide (sv a + sv b < 0)) (R (sv a + sv b).natAbs 0)) := by
  unfold Format.add
  rw [read_num ha, read_num hb]
  simp only [Datum.sum, base_eq, signed_eq, Option.map_some]
  have h1 : (-1074 + ((pl (rg a) : Nat) : Int) - (-1074 + ((min (pl (rg a)) (pl (rg b)) : Nat) : Int))).toNat = pl (rg a) - min (pl (rg a)) (pl (rg b)) := by omega
  have h2 : (-1074 + ((pl (rg b) : Nat) : Int) - (-1074 + ((min (pl (rg a)) (pl (rg b)) : Nat) : Int))).toNat = pl (rg b) - min (pl (rg a)) (pl (rg b)) := by omega
  rw [h1, h2]
  unfold Format.write
  simp only []
  rw [near0]
  have hp := Nat.two_pow_pos (min (pl (rg a)) (pl (rg b)))
  have e : sv a + sv b = (sgnd (ng a) (mt (rg a) * 2 ^ (pl (rg a) - min (pl (rg a)) (pl (rg b)))) + sgnd (ng b) (mt (rg b) * 2 ^ (pl (rg b) - min (pl (rg a)) (pl (rg b))))) * ((2 ^ min (pl (rg a)) (pl (rg b)) : Nat) : Int) := by
    rw [Int.add_mul, ← sgnd_mul, ← sgnd_mul, split_pow _ _ _ (Nat.min_le_left ..), split_pow _ _ _ (Nat.min_le_right ..)]
    rfl
  rw [e]
  generalize sgnd (ng a) (mt (rg a) * 2 ^ (pl (rg a) - min (pl (rg a)) (pl (rg b)))) + sgnd (ng b) (mt (rg b) * 2 ^ (pl (rg b) - min (pl (rg a)) (pl (rg b)))) = t
  generalize 2 ^ min (pl (rg a)) (pl (rg b)) = c at *
  have hc : (0 : Int) < (c : Int) := by omega
  have e1 : t * (c : Int) = 0 ↔ t = 0 := ⟨fun h => by rcases Int.mul_eq_zero.1 h with h | h <;> omega, fun h => by rw [h, Int.zero_mul]⟩
  have e2 : t * (c : Int) < 0 ↔ t < 0 := by
    constructor
    · intro h
      rcases Int.lt_or_le t 0 with h' | h'
      · exact h'
      · have := Int.mul_nonneg h' (Int.le_of_lt hc); omega
    · intro h; exact Int.mul_neg_of_neg_of_pos h hc
  have e3 : (t * (c : Int)).natAbs = t.natAbs * c := by rw [Int.natAbs_mul, Int.natAbs_natCast]
  rw [e3]
  simp only [e1, e2]

theorem sub_eq (a b : Nat) : double.sub a b = ((double.read a).sum (double.read b).opposite).map double.write := rfl

theorem mul_fin {a b : Nat} (ha : rg a < INF) (hb : rg b < INF) :
    double.mul a b = some (double.word (ng a ^^ ng b) (R (val (rg a) * val (rg b)) 1074)) := by
  unfold Format.mul
  rw [read_num ha, read_num hb]
  simp only [Datum.product, Option.map_some]
  unfold Format.write
  simp only []
  have := nearest_R (ng a ^^ ng b) (mt (rg a) * mt (rg b)) 1074 (pl (rg a) + pl (rg b))
  rw [show (-1074 + ((pl (rg a) : Nat) : Int) + (-1074 + ((pl (rg b) : Nat) : Int))) = -1074 - ((1074 : Nat) : Int) + ((pl (rg a) + pl (rg b) : Nat) : Int) by omega, this]
  unfold val
  rw [Nat.pow_add, Nat.mul_mul_mul_comm]

/-- A product by 2^j. -/
theorem mul_pow {a b j : Nat} (ha : rg a < INF) (hb : rg b < INF) (hv : val (rg b) = 2 ^ j * U) :
    double.mul a b = some (double.word (ng a ^^ ng b) (R (val (rg a) * 2 ^ j) 0)) := by
  rw [mul_fin ha hb, hv, ← Nat.mul_assoc, U_def, K_eq]
  have := R_shift (val (rg a) * 2 ^ j) 0 1074
  rw [Nat.zero_add] at this
  rw [this]

/-- A quotient by a power of two. -/
theorem div_pow {a b : Nat} (ha : rg a < INF) (hb : rg b < INF) (hmb : mt (rg b) = B) (e : Nat) (hpl : pl (rg b) + 52 = 1074 + e) :
    double.div a b = some (double.word (ng a ^^ ng b) (R (val (rg a)) e)) := by
  unfold Format.div
  rw [read_num ha, read_num hb]
  have hB0 : B ≠ 0 := by decide
  have hBl : B.log2 = 52 := by decide
  simp only [Datum.quotient, hmb]
  rw [if_neg hB0, hBl, show double.fractionBits = 52 from rfl]
  have hl : (mt (rg a)).log2 ≤ 52 := by
    rcases Nat.eq_zero_or_pos (mt (rg a)) with h0 | h0
    · rw [h0]; decide
    · have := (Nat.log2_lt (n := mt (rg a)) (k := 53) (by omega)).2 (by rw [two53]; exact mt_lt)
      omega
  generalize hM : 52 + 2 + 52 - (mt (rg a)).log2 = more
  have hm : 54 ≤ more := by omega
  have e1 : mt (rg a) <<< more = mt (rg a) * 2 ^ (more - 52) * B := by
    rw [Nat.shiftLeft_eq, B_eq, split_pow _ _ _ (by omega)]
  rw [e1, Nat.mul_div_cancel _ B_pos, Nat.mul_mod_left]
  simp only [Option.map_some, bne_self_eq_false, Bool.toNat_false, Nat.add_zero]
  unfold Format.write
  simp only []
  have e2 : (-1074 + ((pl (rg a) : Nat) : Int) - (-1074 + ((pl (rg b) : Nat) : Int)) - (more : Int) - 1) = -1074 - ((e + (more - 51) : Nat) : Int) + ((pl (rg a) : Nat) : Int) := by omega
  rw [e2, nearest_R]
  have e3 : 2 * (mt (rg a) * 2 ^ (more - 52)) * 2 ^ pl (rg a) = val (rg a) * 2 ^ (more - 51) := by
    unfold val
    rw [show more - 51 = more - 52 + 1 by omega, Nat.pow_succ, Nat.mul_comm 2, Nat.mul_assoc _ _ 2, Nat.mul_right_comm]
  rw [e3, R_shift]

theorem cut_down (s : Bool) (n d : Nat) : (sgnd s (Toward.down.cut s n d)) = sgnd s n / ((2 ^ d : Nat) : Int) := by
  have hd := Nat.two_pow_pos d
  have key : ∀ g : Nat, 0 < g → sgnd s (n / g + (s && (n % g != 0)).toNat) = sgnd s n / (g : Int) := by
    intro g hg
    have h1 := Nat.div_add_mod n g
    have h2 := Nat.mod_lt n hg
    cases s with
    | false => simp [sgnd]
    | true =>
      simp only [sgnd, if_true, Bool.true_and]
      generalize n / g = x at *
      generalize n % g = y at *
      symm
      have hgI : (0 : Int) < (g : Int) := by omega
      have h1' : (n : Int) = (g : Int) * (x : Int) + (y : Int) := by rw [← h1]; push_cast; rfl
      by_cases hy : y = 0
      · subst hy
        simp only [bne_self_eq_false, Bool.toNat_false, Nat.add_zero]
        rw [h1', show -((g : Int) * (x : Int) + ((0 : Nat) : Int)) = (-(x : Int)) * (g : Int) by rw [Int.neg_mul, Int.mul_comm]; simp]
        exact Int.mul_ediv_cancel _ (by omega)
      · have : (y != 0) = true := by rw [bne_iff_ne]; exact hy
        rw [this]
        simp only [Bool.toNat_true]
        rw [h1']
        have e1 : -((g : Int) * (x : Int) + (y : Int)) = ((g : Int) - (y : Int)) + (-((x + 1 : Nat) : Int)) * (g : Int) := by
          push_cast
          rw [Int.neg_mul, Int.add_mul, Int.mul_comm (x : Int)]; omega
        rw [e1, Int.add_mul_ediv_right _ _ (by omega), Int.ediv_eq_zero_of_lt (by omega) (by omega)]
        omega
  unfold Toward.cut
  simp only [Nat.shiftLeft_eq, Nat.one_mul]
  rw [key _ (Nat.two_pow_pos _)]
  rcases Nat.lt_or_ge (n.log2 + 2) d with h | h
  · rw [Nat.min_eq_right (by omega)]
    have h1 : n < 2 ^ (n.log2 + 1) := Nat.lt_log2_self
    have h2 : 2 ^ (n.log2 + 1) ≤ 2 ^ (n.log2 + 2) := Nat.pow_le_pow_right (by omega) (by omega)
    have h3 : 2 ^ (n.log2 + 2) ≤ 2 ^ d := Nat.pow_le_pow_right (by omega) (by omega)
    have gen : ∀ g : Nat, n < g → sgnd s n / (g : Int) = if s = true ∧ n ≠ 0 then -1 else 0 := by
      intro g hg
      cases s with
      | false => rw [if_neg (by simp)]; simp only [sgnd, Bool.false_eq_true, if_false]; exact Int.ediv_eq_zero_of_lt (by omega) (by omega)
      | true =>
        simp only [sgnd, if_true]
        by_cases h0 : n = 0
        · subst h0; simp
        · rw [if_pos (by simp [h0])]
          rw [show -(n : Int) = ((g : Int) - (n : Int)) + (-1) * (g : Int) by omega, Int.add_mul_ediv_right _ _ (by omega), Int.ediv_eq_zero_of_lt (by omega) (by omega)]
          rfl
    rw [gen _ (by omega), gen _ (by omega)]
  · rw [Nat.min_eq_left h]

/-- The floor of a float. -/
noncomputable def flr (a : Nat) : Int := sv a / ((U : Nat) : Int)
theorem ediv_mul (x : Int) (c d : Nat) (hc : 0 < c) : x * (c : Int) / (((d * c : Nat)) : Int) = x / (d : Int) := by
  rw [Int.natCast_mul, Int.mul_ediv_mul_of_pos_left _ _ (by omega)]
/-- math.Floor of a number. -/
theorem floor_num {a : Nat} (ha : rg a < INF) : double.write ((double.read a).integral .down) = double.word (ng a) (ofN (flr a).natAbs) := by
  rw [read_num ha]
  simp only [Datum.integral]
  have hc := cut_down (ng a) (mt (rg a) <<< (-1074 + ((pl (rg a) : Nat) : Int)).toNat) (-(-1074 + ((pl (rg a) : Nat) : Int))).toNat
  have hn := natAbs_sgnd (ng a) (Toward.down.cut (ng a) (mt (rg a) <<< (-1074 + ((pl (rg a) : Nat) : Int)).toNat) (-(-1074 + ((pl (rg a) : Nat) : Int))).toNat)
  have hf : sgnd (ng a) (Toward.down.cut (ng a) (mt (rg a) <<< (-1074 + ((pl (rg a) : Nat) : Int)).toNat) (-(-1074 + ((pl (rg a) : Nat) : Int))).toNat) = flr a := by
    rw [hc]
    unfold flr sv val
    have hK := K_eq
    rw [Nat.shiftLeft_eq]
    rcases Nat.le_total (pl (rg a)) 1074 with h | h
    · rw [show (-1074 + ((pl (rg a) : Nat) : Int)).toNat = 0 by omega, show (-(-1074 + ((pl (rg a) : Nat) : Int))).toNat = 1074 - pl (rg a) by omega, Nat.pow_zero, Nat.mul_one]
      rw [U_def, show K = 1074 - pl (rg a) + pl (rg a) by omega, Nat.pow_add, sgnd_mul, ediv_mul _ _ _ (Nat.two_pow_pos _)]
    · rw [show (-(-1074 + ((pl (rg a) : Nat) : Int))).toNat = 0 by omega, show (-1074 + ((pl (rg a) : Nat) : Int)).toNat = pl (rg a) - 1074 by omega, Nat.pow_zero]
      have e1 : mt (rg a) * 2 ^ pl (rg a) = mt (rg a) * 2 ^ (pl (rg a) - 1074) * U := by rw [U_def, hK, split_pow _ _ _ h]
      rw [e1, sgnd_mul _ _ U, Int.mul_ediv_cancel _ (by have := U_pos; omega)]
      simp
  rw [hf] at hn
  rw [hn]
  unfold Format.write
  simp only []
  have := near0 (ng a) (Toward.down.cut (ng a) (mt (rg a) <<< (-1074 + ((pl (rg a) : Nat) : Int)).toNat) (-(-1074 + ((pl (rg a) : Nat) : Int))).toNat) 1074
  rw [show (-1074 + ((1074 : Nat) : Int)) = 0 by omega] at this
  rw [this]
  unfold ofN
  rw [U_def, K_eq]

end Fl
end Go.Proofs.YtompimbeaeinbaaGreat
