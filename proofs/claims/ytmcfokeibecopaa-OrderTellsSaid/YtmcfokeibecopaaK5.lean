/-
  FLOATS OF 64 BITS AS RUNGS: what a word stands for, how a number is rounded to a word (no Go here).
  FLOATS OF 64 BITS: order, sums, products, quotients, signs (no Go here).
  CONTRACTS OF PACKAGE real ON FLOATS: May, Clean, Add, Sub, Mul, Div, Cmp, and of the reference's.
  CONTRACTS OF THE REFERENCE's FUNCTIONS ON FLOATS; of real.Cmp; bits of signs.
-/
import Derived.Laws.FloatArith
import Derived.Test.YtmcfokeibecopaaK1
import Derived.WalkLawsBesides
import Derived.Laws.Externs
import Derived.Laws.BitsAllLaws
namespace Go.Proofs.Ytmcfokeibecopaa
namespace Fl
open Ieee

def B : Nat := 4503599627370496
def S : Nat := 9223372036854775808
def INF : Nat := 9218868437227405312
def NAN : Nat := 9221120237041090561
set_option maxRecDepth 100000 in
theorem B_eq : B = 2 ^ 52 := by decide
set_option maxRecDepth 100000 in
theorem binade_eq : double.binade = B := by decide
set_option maxRecDepth 100000 in
theorem sw_eq : double.signWeight = S := by decide
set_option maxRecDepth 100000 in
theorem inf_eq : double.infRung = INF := by decide
set_option maxRecDepth 100000 in
theorem lp_eq : double.leastPlace = -1074 := by decide
set_option maxRecDepth 100000 in
theorem B_pos : 0 < B := by decide

def ng (a : Nat) : Bool := a / S % 2 == 1
def rg (a : Nat) : Nat := a % S
def mt (r : Nat) : Nat := if r < B then r else B + r % B
def pl (r : Nat) : Nat := if r < B then 0 else r / B - 1
/-- The value of a rung, in units of the least float. -/
def val (r : Nat) : Nat := mt r * 2 ^ pl r

set_option maxRecDepth 100000 in
theorem read_num {a : Nat} (h : rg a < INF) : double.read a = .number (ng a) (mt (rg a)) (-1074 + ((pl (rg a) : Nat) : Int)) := by
  unfold Format.read
  simp only [binade_eq, sw_eq, inf_eq, lp_eq]
  unfold rg at h
  by_cases hb : a % S < B
  · rw [if_pos hb]; simp [ng, rg, mt, pl, hb]
  · rw [if_neg hb, if_pos h]; simp [ng, rg, mt, pl, hb]
set_option maxRecDepth 100000 in
theorem read_inf {a : Nat} (h : rg a = INF) : double.read a = .infinity (ng a) := by
  unfold Format.read
  simp only [binade_eq, sw_eq, inf_eq]
  unfold rg at h
  rw [if_neg (by rw [h]; decide), if_neg (by rw [h]; decide), if_pos h]
  rfl
set_option maxRecDepth 100000 in
theorem read_nan {a : Nat} (h : INF < rg a) : double.read a = .nan (ng a) (rg a - INF) := by
  unfold Format.read
  simp only [binade_eq, sw_eq, inf_eq]
  unfold rg at h
  have : B < INF := by decide
  rw [if_neg (by omega), if_neg (by omega), if_neg (by omega)]
  rfl

/-- n / 2^d, to the nearest, ties to even. -/
def rne (n d : Nat) : Nat := n / 2 ^ d + (if 2 ^ d < 2 * (n % 2 ^ d) ∨ (2 ^ d = 2 * (n % 2 ^ d) ∧ n / 2 ^ d % 2 = 1) then 1 else 0)

set_option maxRecDepth 100000 in
theorem cut_even (neg : Bool) (n d : Nat) : Toward.even.cut neg n d = rne n d := by
  have key : ∀ g : Nat, n / g + (decide (g < 2 * (n % g)) || (g == 2 * (n % g) && n / g % 2 == 1)).toNat = n / g + (if g < 2 * (n % g) ∨ (g = 2 * (n % g) ∧ n / g % 2 = 1) then 1 else 0) := by
    intro g
    by_cases h1 : g < 2 * (n % g)
    · simp [h1]
    · by_cases h2 : g = 2 * (n % g) ∧ n / g % 2 = 1
      · rw [if_pos (Or.inr h2)]
        have a1 : (g == 2 * (n % g)) = true := by rw [beq_iff_eq]; exact h2.1
        have a2 : (n / g % 2 == 1) = true := by rw [beq_iff_eq]; exact h2.2
        simp [a1, a2]
      · rw [if_neg (by rintro (h | h); exact h1 h; exact h2 h)]
        have : (decide (g < 2 * (n % g)) || (g == 2 * (n % g) && n / g % 2 == 1)) = false := by
          rw [Bool.or_eq_false_iff]
          refine ⟨decide_eq_false h1, ?_⟩
          rw [Bool.and_eq_false_iff]
          by_cases h3 : g = 2 * (n % g)
          · right; rw [beq_eq_false_iff_ne]; exact fun h4 => h2 ⟨h3, h4⟩
          · left; rw [beq_eq_false_iff_ne]; exact h3
        rw [this]; rfl
  unfold Toward.cut
  simp only [Nat.shiftLeft_eq, Nat.one_mul]
  rw [key]
  unfold rne
  rcases Nat.lt_or_ge (n.log2 + 2) d with h | h
  rotate_left
  · rw [Nat.min_eq_left h]
  · rw [Nat.min_eq_right (by omega)]
    have h1 : n < 2 ^ (n.log2 + 1) := Nat.lt_log2_self
    have h2 : 2 ^ (n.log2 + 2) = 2 * 2 ^ (n.log2 + 1) := by rw [Nat.pow_succ, Nat.mul_comm]
    have h3 : 2 ^ (n.log2 + 2) ≤ 2 ^ d := Nat.pow_le_pow_right (by omega) (by omega)
    rw [Nat.div_eq_of_lt (show n < 2 ^ d by omega), Nat.div_eq_of_lt (show n < 2 ^ (n.log2 + 2) by omega), Nat.mod_eq_of_lt (show n < 2 ^ d by omega), Nat.mod_eq_of_lt (show n < 2 ^ (n.log2 + 2) by omega), if_neg (by omega), if_neg (by omega)]

set_option maxRecDepth 100000 in
theorem rne_shift (n d k : Nat) : rne (n * 2 ^ k) (d + k) = rne n d := by
  have hk : 0 < 2 ^ k := Nat.two_pow_pos k
  unfold rne
  rw [Nat.pow_add, Nat.mul_div_mul_right _ _ hk, Nat.mul_mod_mul_right]
  have e1 : (2 ^ d * 2 ^ k < 2 * (n % 2 ^ d * 2 ^ k)) ↔ 2 ^ d < 2 * (n % 2 ^ d) := by
    rw [← Nat.mul_assoc]; exact Nat.mul_lt_mul_right hk
  have e2 : (2 ^ d * 2 ^ k = 2 * (n % 2 ^ d * 2 ^ k)) ↔ 2 ^ d = 2 * (n % 2 ^ d) := by
    rw [← Nat.mul_assoc]; exact ⟨fun h => Nat.eq_of_mul_eq_mul_right hk h, fun h => congrArg (· * 2 ^ k) h⟩
  simp only [e1, e2]
set_option maxRecDepth 100000 in
theorem rne_zero (n : Nat) : rne n 0 = n := by
  unfold rne
  simp [Nat.mod_one]
set_option maxRecDepth 100000 in
theorem rne_mul (n k : Nat) : rne (n * 2 ^ k) k = n := by
  have := rne_shift n 0 k
  rw [Nat.zero_add, rne_zero] at this
  exact this

set_option maxRecDepth 100000 in
theorem log2_mul (n k : Nat) (h : n ≠ 0) : (n * 2 ^ k).log2 = n.log2 + k := by
  have hk : 0 < 2 ^ k := Nat.two_pow_pos k
  have h1 := Nat.log2_self_le h
  have h2 : n < 2 ^ (n.log2 + 1) := Nat.lt_log2_self
  have hne : n * 2 ^ k ≠ 0 := Nat.mul_ne_zero h (by omega)
  apply Nat.le_antisymm
  · have : n * 2 ^ k < 2 ^ (n.log2 + k + 1) := by
      rw [show n.log2 + k + 1 = n.log2 + 1 + k by omega, Nat.pow_add]
      exact Nat.mul_lt_mul_of_pos_right h2 hk
    have := (Nat.log2_lt hne).2 this
    omega
  · rw [Nat.le_log2 hne, Nat.pow_add]
    exact Nat.mul_le_mul_right _ h1

/-- The rung nearest to N * 2^-(1074+e). -/
def R (N e : Nat) : Nat := min ((max (N.log2 - 52) e - e) * B + rne N (max (N.log2 - 52) e)) INF

set_option maxRecDepth 100000 in
theorem rne_of_zero (d : Nat) : rne 0 d = 0 := by
  unfold rne
  have := Nat.two_pow_pos d
  simp
set_option maxRecDepth 100000 in
theorem R_zero (e : Nat) : R 0 e = 0 := by
  unfold R
  rw [show Nat.log2 0 = 0 by decide, rne_of_zero]
  simp

set_option maxRecDepth 100000 in
theorem nearest_R (neg : Bool) (m e k : Nat) : double.nearest neg m (-1074 - (e : Int) + (k : Int)) = double.word neg (R (m * 2 ^ k) e) := by
  unfold Format.nearest
  by_cases hm : m = 0
  · subst hm; rw [if_pos rfl, Nat.zero_mul, R_zero]
  · rw [if_neg hm]
    simp only [binade_eq, inf_eq, lp_eq, cut_even, Nat.shiftLeft_eq]
    unfold R
    rw [log2_mul m k hm, show double.fractionBits = 52 from rfl]
    generalize m.log2 = L
    have hl : max (-1074 - (e : Int) + (k : Int) + (L : Int) - ((52 : Nat) : Int)) (-1074) = -1074 - (e : Int) + ((max (L + k - 52) e : Nat) : Int) := by omega
    rw [hl]
    generalize hD : max (L + k - 52) e = D
    have h1 : (-1074 - (e : Int) + (D : Int) - -1074).toNat = D - e := by omega
    have h2 : (-1074 - (e : Int) + (k : Int) - (-1074 - (e : Int) + (D : Int))).toNat = k - D := by omega
    have h3 : (-1074 - (e : Int) + (D : Int) - (-1074 - (e : Int) + (k : Int))).toNat = D - k := by omega
    rw [h1, h2, h3]
    have h4 : rne (m * 2 ^ (k - D)) (D - k) = rne (m * 2 ^ k) D := by
      rcases Nat.le_total D k with h | h
      · have h5 : m * 2 ^ k = m * 2 ^ (k - D) * 2 ^ D := by rw [Nat.mul_assoc, ← Nat.pow_add, Nat.sub_add_cancel h]
        rw [h5, rne_mul, show D - k = 0 by omega, rne_zero]
      · have h5 : D = D - k + k := by omega
        rw [show k - D = 0 by omega, Nat.pow_zero, Nat.mul_one]
        conv => rhs; rw [h5]
        rw [rne_shift]
    rw [h4]

set_option maxRecDepth 100000 in
theorem R_shift (N e k : Nat) : R (N * 2 ^ k) (e + k) = R N e := by
  by_cases h : N = 0
  · subst h; rw [Nat.zero_mul, R_zero, R_zero]
  · unfold R
    rw [log2_mul N k h]
    generalize N.log2 = L
    rw [show max (L + k - 52) (e + k) = max (L - 52) e + k by omega, rne_shift]
    congr 3
    omega

set_option maxRecDepth 100000 in
theorem two53 : 2 ^ 53 = 2 * B := by decide
set_option maxRecDepth 100000 in
theorem mt_lt {r : Nat} : mt r < 2 * B := by
  unfold mt
  have := Nat.mod_lt r B_pos
  split <;> omega
set_option maxRecDepth 100000 in
theorem log2_mt {r : Nat} (h : ¬ r < B) : (mt r).log2 = 52 := by
  have h1 : mt r = B + r % B := by unfold mt; rw [if_neg h]
  have h2 := @mt_lt r
  have hne : mt r ≠ 0 := by have := B_pos; omega
  apply Nat.le_antisymm
  · have := (Nat.log2_lt (k := 53) hne).2 (by rw [two53]; omega)
    omega
  · rw [Nat.le_log2 hne]; rw [B_eq] at h1; omega

set_option maxRecDepth 100000 in
/-- A rung is found again. -/
theorem R_val {r : Nat} (h : r < INF) : R (val r) 0 = r := by
  unfold R val
  by_cases hb : r < B
  · have h1 : pl r = 0 := by unfold pl; rw [if_pos hb]
    have h2 : mt r = r := by unfold mt; rw [if_pos hb]
    rw [h1, h2, Nat.pow_zero, Nat.mul_one]
    have : r.log2 ≤ 52 := by
      rcases Nat.eq_zero_or_pos r with h0 | h0
      · subst h0; decide
      · have := (Nat.log2_lt (n := r) (k := 53) (by omega)).2 (by rw [two53]; omega)
        omega
    rw [show max (r.log2 - 52) 0 = 0 by omega, rne_zero]
    omega
  · have h1 : pl r = r / B - 1 := by unfold pl; rw [if_neg hb]
    have h2 : mt r = B + r % B := by unfold mt; rw [if_neg hb]
    have hne : mt r ≠ 0 := by have := B_pos; omega
    rw [log2_mul _ _ hne, log2_mt hb, show max (52 + pl r - 52) 0 = pl r by omega, rne_mul, h2, h1, Nat.sub_zero]
    have h3 := Nat.div_add_mod r B
    have h4 : 1 ≤ r / B := (Nat.le_div_iff_mul_le B_pos).2 (by omega)
    have h5 : (r / B - 1) * B + (B + r % B) = r := by
      rw [Nat.sub_mul, Nat.one_mul, Nat.mul_comm]
      have : B ≤ B * (r / B) := Nat.le_mul_of_pos_right _ (by omega)
      omega
    rw [h5]
    omega
set_option maxRecDepth 100000 in
theorem R_val' {r : Nat} (h : r < INF) (e : Nat) : R (val r * 2 ^ e) e = r := by
  have := R_shift (val r) 0 e
  rw [Nat.zero_add, R_val h] at this
  exact this

set_option maxRecDepth 100000 in
theorem val_succ (r : Nat) : val (r + 1) = val r + 2 ^ pl r := by
  have hB := B_pos
  unfold val mt pl
  by_cases h1 : r + 1 < B
  · rw [if_pos h1, if_pos h1, if_pos (by omega), if_pos (by omega)]; simp
  · by_cases h2 : r < B
    · have h3 : r + 1 = B := by omega
      rw [if_neg h1, if_neg h1, if_pos h2, if_pos h2, h3, Nat.mod_self, Nat.div_self hB]
      simp; omega
    · rw [if_neg h1, if_neg h1, if_neg h2, if_neg h2]
      have h3 := Nat.div_add_mod r B
      have h4 : 1 ≤ r / B := (Nat.le_div_iff_mul_le B_pos).2 (by omega)
      have h6 := Nat.mod_lt r hB
      generalize hq : r / B = q at *
      generalize hs : r % B = s at *
      by_cases h5 : s + 1 < B
      · have e1 : (r + 1) / B = q := by
          rw [← h3, Nat.add_assoc, Nat.mul_add_div hB, Nat.div_eq_of_lt h5, Nat.add_zero]
        have e2 : (r + 1) % B = s + 1 := by
          rw [← h3, Nat.add_assoc, Nat.mul_add_mod, Nat.mod_eq_of_lt h5]
        rw [e1, e2, ← Nat.add_assoc, Nat.add_mul (B + s) 1, Nat.one_mul]
      · have h7 : s + 1 = B := by omega
        have e1 : (r + 1) / B = q + 1 := by
          rw [← h3, Nat.add_assoc, h7, Nat.mul_add_div hB, Nat.div_self hB]
        have e2 : (r + 1) % B = 0 := by
          rw [← h3, Nat.add_assoc, h7, Nat.mul_add_mod, Nat.mod_self]
        rw [e1, e2, Nat.add_zero, show q + 1 - 1 = (q - 1) + 1 by omega, Nat.pow_succ]
        have : B + s = 2 * B - 1 := by omega
        rw [this]
        have hp := Nat.two_pow_pos (q - 1)
        generalize 2 ^ (q - 1) = t at *
        rw [Nat.sub_mul, Nat.one_mul]
        have : t ≤ 2 * B * t := Nat.le_mul_of_pos_left _ (by omega)
        have : B * (t * 2) = 2 * B * t := by rw [Nat.mul_comm t 2, ← Nat.mul_assoc, Nat.mul_comm B 2]
        omega

set_option maxRecDepth 100000 in
theorem val_lt {r s : Nat} (h : r < s) : val r < val s := by
  induction s with
  | zero => omega
  | succ s ih =>
    have := val_succ s
    have hp := Nat.two_pow_pos (pl s)
    rcases Nat.lt_or_eq_of_le (Nat.le_of_lt_succ h) with h | h
    · have := ih h; omega
    · subst h; omega
set_option maxRecDepth 100000 in
theorem val_le {r s : Nat} (h : r ≤ s) : val r ≤ val s := by
  rcases Nat.lt_or_eq_of_le h with h | h
  · exact Nat.le_of_lt (val_lt h)
  · rw [h]; exact Nat.le_refl _
set_option maxRecDepth 100000 in
theorem val_lt_iff {r s : Nat} : val r < val s ↔ r < s :=
  ⟨fun h => by rcases Nat.lt_or_ge r s with h' | h'
               · exact h'
               · have := val_le h'; omega, val_lt⟩
set_option maxRecDepth 100000 in
theorem val_inj {r s : Nat} (h : val r = val s) : r = s := by
  rcases Nat.lt_trichotomy r s with h' | h' | h'
  · have := val_lt h'; omega
  · exact h'
  · have := val_lt h'; omega
set_option maxRecDepth 100000 in
theorem val_zero : val 0 = 0 := by decide

end Fl
end Go.Proofs.Ytmcfokeibecopaa

namespace Go.Proofs.Ytmcfokeibecopaa
namespace Fl
open Ieee

def sgnd (s : Bool) (v : Nat) : Int := if s then -(v : Int) else (v : Int)
/-- The value of a word, in units of the least float; of infinities, as if they were the next number. -/
def sv (a : Nat) : Int := sgnd (ng a) (val (rg a))
def nanB (a : Nat) : Bool := decide (INF < rg a)

set_option maxRecDepth 100000 in
theorem signed_eq (s : Bool) (m k : Nat) : signed s m k = sgnd s (m * 2 ^ k) := by
  unfold signed sgnd
  rw [Nat.shiftLeft_eq]
set_option maxRecDepth 100000 in
theorem sgnd_mul (s : Bool) (v c : Nat) : sgnd s (v * c) = sgnd s v * (c : Int) := by
  unfold sgnd
  split
  · rw [Int.natCast_mul, Int.neg_mul]
  · rw [Int.natCast_mul]
set_option maxRecDepth 100000 in
theorem natAbs_sgnd (s : Bool) (v : Nat) : (sgnd s v).natAbs = v := by
  unfold sgnd; split <;> omega

set_option maxRecDepth 100000 in
theorem int_cmp (x y : Int) : compare x y = if x < y then .lt else if x = y then .eq else .gt := by
  rfl
set_option maxRecDepth 100000 in
theorem cmp_lt {x y : Int} (h : x < y) : compare x y = .lt := by rw [int_cmp, if_pos h]
set_option maxRecDepth 100000 in
theorem cmp_eq {x y : Int} (h : x = y) : compare x y = .eq := by rw [int_cmp, if_neg (by omega), if_pos h]
set_option maxRecDepth 100000 in
theorem cmp_gt {x y : Int} (h : y < x) : compare x y = .gt := by rw [int_cmp, if_neg (by omega), if_neg (by omega)]
set_option maxRecDepth 100000 in
theorem int_cmp_mul (x y : Int) (c : Nat) (hc : 0 < c) : compare (x * (c : Int)) (y * (c : Int)) = compare x y := by
  have hc' : (0 : Int) < (c : Int) := by omega
  rw [int_cmp, int_cmp]
  have e1 : x * (c : Int) < y * (c : Int) ↔ x < y := ⟨fun h => Int.lt_of_mul_lt_mul_right h (by omega), fun h => Int.mul_lt_mul_of_pos_right h hc'⟩
  have e2 : x * (c : Int) = y * (c : Int) ↔ x = y := ⟨fun h => Int.eq_of_mul_eq_mul_right (by omega) h, fun h => by rw [h]⟩
  simp only [e1, e2]

set_option maxRecDepth 100000 in
theorem split_pow (m p q : Nat) (h : q ≤ p) : m * 2 ^ (p - q) * 2 ^ q = m * 2 ^ p := by
  rw [Nat.mul_assoc, ← Nat.pow_add, Nat.sub_add_cancel h]

set_option maxRecDepth 100000 in
theorem base_eq (p q : Nat) : min (-1074 + (p : Int)) (-1074 + (q : Int)) = -1074 + ((min p q : Nat) : Int) := by omega

set_option maxRecDepth 100000 in
theorem order_num {a b : Nat} (ha : rg a < INF) (hb : rg b < INF) : double.order a b = some (compare (sv a) (sv b)) := by
  unfold Format.order
  rw [read_num ha, read_num hb]
  simp only [Datum.order, base_eq, signed_eq]
  have h1 : (-1074 + ((pl (rg a) : Nat) : Int) - (-1074 + ((min (pl (rg a)) (pl (rg b)) : Nat) : Int))).toNat = pl (rg a) - min (pl (rg a)) (pl (rg b)) := by omega
  have h2 : (-1074 + ((pl (rg b) : Nat) : Int) - (-1074 + ((min (pl (rg a)) (pl (rg b)) : Nat) : Int))).toNat = pl (rg b) - min (pl (rg a)) (pl (rg b)) := by omega
  rw [h1, h2]
  have hp := Nat.two_pow_pos (min (pl (rg a)) (pl (rg b)))
  rw [← int_cmp_mul _ _ _ hp, ← sgnd_mul, ← sgnd_mul, split_pow _ _ _ (Nat.min_le_left ..), split_pow _ _ _ (Nat.min_le_right ..)]
  rfl

set_option maxRecDepth 100000 in
theorem order_any {a b : Nat} (ha : rg a ≤ INF) (hb : rg b ≤ INF) : double.order a b = some (compare (sv a) (sv b)) := by
  rcases Nat.lt_or_eq_of_le ha with h1 | h1
  · rcases Nat.lt_or_eq_of_le hb with h2 | h2
    · exact order_num h1 h2
    · unfold Format.order
      rw [read_num h1, read_inf h2]
      simp only [Datum.order]
      have h3 := val_lt h1
      have h4 := natAbs_sgnd (ng a) (val (rg a))
      unfold sv
      rw [h2]
      generalize sgnd (ng a) (val (rg a)) = x at *
      cases hb : ng b
      · rw [cmp_lt (by unfold sgnd; simp; omega)]; rfl
      · rw [cmp_gt (by unfold sgnd; simp; omega)]; rfl
  · rcases Nat.lt_or_eq_of_le hb with h2 | h2
    · unfold Format.order
      rw [read_inf h1, read_num h2]
      simp only [Datum.order]
      have h3 := val_lt h2
      have h4 := natAbs_sgnd (ng b) (val (rg b))
      unfold sv
      rw [h1]
      generalize sgnd (ng b) (val (rg b)) = x at *
      cases ha : ng a
      · rw [cmp_gt (by unfold sgnd; simp; omega)]; rfl
      · rw [cmp_lt (by unfold sgnd; simp; omega)]; rfl
    · unfold Format.order
      rw [read_inf h1, read_inf h2]
      simp only [Datum.order]
      have h3 : 0 < val INF := by have := val_lt (show 0 < INF by decide); omega
      unfold sv
      rw [h1, h2]
      generalize val INF = t at *
      cases hb : ng b <;> cases ha : ng a
      · rw [cmp_eq rfl]; rfl
      · rw [cmp_lt (by unfold sgnd; simp; omega)]; rfl
      · rw [cmp_gt (by unfold sgnd; simp; omega)]; rfl
      · rw [cmp_eq rfl]; rfl
set_option maxRecDepth 100000 in
theorem order_nan {a b : Nat} (h : nanB a = true ∨ nanB b = true) : double.order a b = none := by
  unfold Format.order
  rcases h with h | h
  · rw [read_nan (of_decide_eq_true h)]; rfl
  · rw [read_nan (a := b) (of_decide_eq_true h)]
    cases double.read a <;> rfl
set_option maxRecDepth 100000 in
theorem order_self (a : Nat) : (double.order a a != some .eq) = nanB a := by
  cases h : nanB a with
  | true => rw [order_nan (Or.inl h)]; rfl
  | false =>
    have : rg a ≤ INF := by unfold nanB at h; have := of_decide_eq_false h; omega
    rw [order_any this this, int_cmp, if_neg (by omega), if_pos rfl]; rfl

/-- Rungs with signs. -/
def si (a : Nat) : Int := sgnd (ng a) (rg a)
set_option maxRecDepth 100000 in
theorem sv_lt_iff (a b : Nat) : sv a < sv b ↔ si a < si b := by
  unfold sv si sgnd
  have h1 := @val_lt_iff (rg a) (rg b)
  have h2 := @val_lt_iff (rg b) (rg a)
  have h3 := @val_lt_iff 0 (rg a)
  have h4 := @val_lt_iff 0 (rg b)
  rw [val_zero] at h3 h4
  cases ng a <;> cases ng b <;> simp <;> omega

set_option maxRecDepth 100000 in
theorem word_ng {s : Bool} {r : Nat} (h : r < S) : ng (double.word s r) = s := by
  unfold ng Format.word
  rw [sw_eq]
  have hS : 0 < S := by decide
  cases s
  · simp [Nat.div_eq_of_lt h]
  · simp only [if_true]
    have : (S + r) / S = 1 := by rw [Nat.add_div_left _ hS, Nat.div_eq_of_lt h]
    rw [this]; rfl
set_option maxRecDepth 100000 in
theorem word_rg {s : Bool} {r : Nat} (h : r < S) : rg (double.word s r) = r := by
  unfold rg Format.word
  rw [sw_eq]
  cases s
  · simp [Nat.mod_eq_of_lt h]
  · simp [Nat.add_mod_left, Nat.mod_eq_of_lt h]
set_option maxRecDepth 100000 in
theorem word_eq {a : Nat} (h : a < 2 * S) : double.word (ng a) (rg a) = a := by
  unfold Format.word ng rg
  rw [sw_eq]
  have hS : 0 < S := by decide
  have h1 := Nat.div_add_mod a S
  have h2 : a / S < 2 := (Nat.div_lt_iff_lt_mul hS).2 (by omega)
  have h3 : a / S = 0 ∨ a / S = 1 := by
    clear h1
    generalize a / S = q at *
    omega
  rcases h3 with h3 | h3
  · rw [h3] at h1
    rw [h3, if_neg (by decide)]; omega
  · rw [h3] at h1
    rw [h3, if_pos (by decide)]; omega
set_option maxRecDepth 100000 in
theorem INF_lt_S : INF < S := by decide
set_option maxRecDepth 100000 in
theorem R_le (N e : Nat) : R N e ≤ INF := by unfold R; omega
set_option maxRecDepth 100000 in
theorem R_lt (N e : Nat) : R N e < S := Nat.lt_of_le_of_lt (R_le N e) INF_lt_S

/-- A word that is no NaN. -/
def Num (d : Datum) : Prop := match d with | .nan .. => False | _ => True
set_option maxRecDepth 100000 in
theorem write_num {d : Datum} (h : Num d) : nanB (double.write d) = false := by
  cases d with
  | nan => exact absurd h id
  | infinity s =>
    unfold Format.write nanB
    rw [inf_eq, word_rg INF_lt_S]
    decide
  | number s m p =>
    have : ∃ r, r ≤ INF ∧ double.nearest s m p = double.word s r := by
      unfold Format.nearest
      simp only []
      split
      · exact ⟨0, Nat.zero_le _, rfl⟩
      · refine ⟨_, ?_, rfl⟩
        rw [inf_eq]; exact Nat.min_le_right ..
    obtain ⟨r, h1, h2⟩ := this
    show nanB (double.nearest s m p) = false
    rw [h2]
    unfold nanB
    rw [word_rg (Nat.lt_of_le_of_lt h1 INF_lt_S)]
    exact decide_eq_false (by omega)
set_option maxRecDepth 100000 in
theorem sum_num {x y d : Datum} (h : x.sum y = some d) : Num d := by
  cases x <;> cases y <;> simp [Datum.sum] at h <;> first | (subst h; trivial) | (obtain ⟨_, rfl⟩ := h; trivial)
set_option maxRecDepth 100000 in
theorem product_num {x y d : Datum} (h : x.product y = some d) : Num d := by
  cases x <;> cases y <;> simp [Datum.product] at h <;> first | (subst h; trivial) | (obtain ⟨_, rfl⟩ := h; trivial)
set_option maxRecDepth 100000 in
theorem quotient_num {k : Nat} {x y d : Datum} (h : x.quotient k y = some d) : Num d := by
  cases x <;> cases y <;> simp only [Datum.quotient, reduceCtorEq, Option.some.injEq] at h
  · split at h
    · split at h
      · cases h
      · cases h; trivial
    · cases h; trivial
  · subst h; trivial
  · subst h; trivial
set_option maxRecDepth 100000 in
theorem map_write_num {o : Option Datum} {r : Nat} (hn : ∀ d, o = some d → Num d) (h : o.map double.write = some r) : nanB r = false := by
  cases o with
  | none => cases h
  | some d => cases h; exact write_num (hn d rfl)
set_option maxRecDepth 100000 in
/-- What an operation gives is no NaN, where it gives anything. -/
theorem floatBits_num {op : BinOp} {a b r : Nat} (h : floatBits op .f64 a b = some r) : nanB r = false := by
  unfold floatBits at h
  split at h
  · exact map_write_num (fun _ => sum_num) h
  · exact map_write_num (fun _ => sum_num) h
  · exact map_write_num (fun _ => product_num) h
  · exact map_write_num (fun _ => quotient_num) h
  · cases h

end Fl
end Go.Proofs.Ytmcfokeibecopaa

namespace Go.Proofs.Ytmcfokeibecopaa
open Go.RowKit

def U64 (a : Int) : Prop := 0 ≤ a ∧ a < 18446744073709551616
set_option maxRecDepth 100000 in
theorem U64.nat {a : Int} (h : U64 a) : a.toNat < 2 * Fl.S := by
  have : Fl.S = 9223372036854775808 := rfl
  unfold U64 at h; omega
set_option maxRecDepth 100000 in
theorem U64.mk {n : Nat} (h : n < 2 * Fl.S) : U64 (n : Int) := by
  have : Fl.S = 9223372036854775808 := rfl
  unfold U64; omega

set_option maxRecDepth 100000 in
theorem call_frombits (a : Int) (w : World) : (callFunc 74 #[.int .u64 a]).run Try.prog w = .ok (.value (.float .f64 a.toNat)) w := by
  rw [run_callFunc_extern (e := Extern.MathFloatBits.float64frombits) Try.func74 (by kernel_rfl) (by kernel_rfl) (by kernel_rfl) (by kernel_rfl)]
  rfl
set_option maxRecDepth 100000 in
theorem call_bits (b : Nat) (w : World) : (callFunc 95 #[.float .f64 b]).run Try.prog w = .ok (.value (.int .u64 b)) w := by
  rw [run_callFunc_extern (e := Extern.MathFloatBits.float64bits) Try.func95 (by kernel_rfl) (by kernel_rfl) (by kernel_rfl) (by kernel_rfl)]
  rfl

set_option maxRecDepth 100000 in
theorem order_self (a : Nat) : (FloatKind.f64.format.order a a != some .eq) = Fl.nanB a := Fl.order_self a

set_option maxRecDepth 100000 in
set_option maxHeartbeats 400000 in
theorem isNaN_any (w : World) (a : Nat) :
    Calls Try.prog 75 #[.float .f64 a] w fun e w' => e = .returned (.bool (Fl.nanB a)) ∧ w = w' := by
  have h := Lib.hid (order_self a)
  go_enter Try.func75, Try.ntmps75
  go_wp2
  go_ret
  rw [← h.out]
  exact ⟨rfl, rfl⟩

/-- Clean, of bits. -/
def cleanN (a : Nat) : Nat := if Fl.nanB a then Fl.NAN else a
def cleanI (a : Int) : Int := (cleanN a.toNat : Nat)

set_option maxRecDepth 100000 in
set_option maxHeartbeats 400000 in
theorem clean_any (w : World) (a : Int) (h : U64 a) :
    Calls Try.prog 86 #[.int .u64 a] w fun e w' => e = .returned (.int .u64 (cleanI a)) ∧ w = w' := by
  have c1 := call_frombits
  cases hb : Fl.nanB a.toNat with
  | true =>
    have fin : Hid (cleanI a = 9221120237041090561) := by unfold cleanI cleanN; rw [if_pos hb]; exact Lib.hid rfl
    go_enter Try.func86, Try.ntmps86
    go_wp2_with (go_at_call 75; refine (isNaN_any _ _).mono ?_; rintro e w' ⟨rfl, rfl⟩)
    go_ret
    rw [fin.out]
    exact ⟨rfl, rfl⟩
  | false =>
    have fin : Hid (cleanI a = a) := by unfold cleanI cleanN; rw [if_neg (by rw [hb]; decide)]; exact Lib.hid (Int.toNat_of_nonneg h.1)
    go_enter Try.func86, Try.ntmps86
    go_wp2_with (go_at_call 75; refine (isNaN_any _ _).mono ?_; rintro e w' ⟨rfl, rfl⟩)
    go_ret
    rw [fin.out]
    exact ⟨rfl, rfl⟩

set_option maxRecDepth 100000 in
theorem cleanN_lt {a : Nat} (h : a < 2 * Fl.S) : cleanN a < 2 * Fl.S := by
  unfold cleanN
  split
  · decide
  · exact h
set_option maxRecDepth 100000 in
theorem cleanI_u64 {a : Int} (h : U64 a) : U64 (cleanI a) := U64.mk (cleanN_lt h.nat)

set_option maxRecDepth 100000 in
set_option maxHeartbeats 400000 in
theorem may_flt (w : World) (a : Int) (h : U64 a) :
    Calls Try.prog 71 #[.int .u64 a] w fun e w' => e = .returned (.bool (cleanI a == a)) ∧ w = w' := by
  go_enter Try.func71, Try.ntmps71
  go_wp2_with (go_at_call 86; refine (clean_any _ _ h).mono ?_; rintro e w' ⟨rfl, rfl⟩)
  go_ret
  exact ⟨rfl, rfl⟩

/-- What an operation gives, clean. -/
def opN (op : BinOp) (a b : Nat) : Nat := (floatBits op .f64 a b).getD Fl.NAN
def opI (op : BinOp) (a b : Int) : Int := (opN op a.toNat b.toNat : Nat)
set_option maxRecDepth 100000 in
theorem opN_lt (op : BinOp) (a b : Nat) : opN op a b < 2 * Fl.S := by
  unfold opN
  cases h : floatBits op .f64 a b with
  | none => decide
  | some r =>
    have := floatBits_wf h
    simp [Lit.wf] at this
    have e : Fl.S = 9223372036854775808 := rfl
    simp only [Option.getD_some]; omega
set_option maxRecDepth 100000 in
theorem opI_u64 (op : BinOp) (a b : Int) : U64 (opI op a b) := U64.mk (opN_lt _ _ _)
set_option maxRecDepth 100000 in
theorem clean_some {op : BinOp} {a b r : Nat} (h : floatBits op .f64 a b = some r) : cleanN r = opN op a b := by
  unfold cleanN opN
  rw [Fl.floatBits_num h, h]
  rfl
set_option maxRecDepth 100000 in
theorem nan_cut (w : World) (x y : Nat) : Fl.nanB (Question.cut (.nanBits .f64 x y) (w.tape w.drawn (.nanBits .f64 x y))) = true ∧ Question.cut (.nanBits .f64 x y) (w.tape w.drawn (.nanBits .f64 x y)) < 2 * Fl.S := by
  generalize w.tape w.drawn (.nanBits .f64 x y) = t
  have e1 : Fl.S = 9223372036854775808 := rfl
  have e2 : Fl.INF = 9218868437227405312 := rfl
  have h1 : Question.cut (.nanBits .f64 x y) t = (t % 2) * 9223372036854775808 + 9218868437227405312 + 1 + (t / 2) % 4503599627370495 := rfl
  rw [h1]
  refine ⟨?_, by omega⟩
  unfold Fl.nanB Fl.rg
  rw [decide_eq_true_iff, e1, e2]
  have h2 : (t / 2) % 4503599627370495 < 4503599627370495 := Nat.mod_lt _ (by omega)
  generalize (t / 2) % 4503599627370495 = q at *
  rcases Nat.mod_two_eq_zero_or_one t with h3 | h3 <;> rw [h3] <;> omega
set_option maxRecDepth 100000 in
theorem clean_none {op : BinOp} {a b r : Nat} (h : floatBits op .f64 a b = none) (hr : Fl.nanB r = true) : cleanN r = opN op a b := by
  unfold cleanN opN
  rw [hr, h]
  rfl
set_option maxRecDepth 100000 in
/-- Invalid: the tape is asked. -/
theorem run_float_none {P : Program} (w : World) (op : BinOp) (t : TypeId) (x y : Nat) (hop : op = .add ∨ op = .sub ∨ op = .mul ∨ op = .quo) (h : floatBits op .f64 x y = none) :
    (binOp op t (.float .f64 x) (.float .f64 y)).run P w = .ok (.float .f64 (Question.cut (.nanBits .f64 x y) (w.tape w.drawn (.nanBits .f64 x y)))) w.drew := by
  unfold floatBits at h
  rcases hop with rfl | rfl | rfl | rfl <;> simp only at h <;> simp [binOp, Op.floatArith, h, Question.forced]


end Go.Proofs.Ytmcfokeibecopaa

namespace Go.Proofs.Ytmcfokeibecopaa
open Go.RowKit

namespace Fl
open Ieee
set_option maxRecDepth 100000 in
theorem ng_eq (a : Nat) (h : a < 2 * S) : (a / S = 0 ∧ ng a = false) ∨ (a / S = 1 ∧ ng a = true) := by
  have hS : 0 < S := by decide
  have h2 : a / S < 2 := (Nat.div_lt_iff_lt_mul hS).2 (by omega)
  unfold ng
  generalize a / S = q at *
  have h3 : q = 0 ∨ q = 1 := by omega
  rcases h3 with rfl | rfl
  · exact Or.inl ⟨rfl, rfl⟩
  · exact Or.inr ⟨rfl, rfl⟩
set_option maxRecDepth 100000 in
theorem split_eq (a : Nat) (h : a < 2 * S) : a = (if ng a then S else 0) + rg a := by
  have h1 := Nat.div_add_mod a S
  unfold rg
  rcases ng_eq a h with ⟨h2, h3⟩ | ⟨h2, h3⟩
  · rw [h2] at h1; rw [h3]; simp; omega
  · rw [h2] at h1; rw [h3]; simp; omega
/-- The other sign. -/
def flip (a : Nat) : Nat := double.word (!ng a) (rg a)
set_option maxRecDepth 100000 in
theorem S_pow : S = 2 ^ 63 := by decide
set_option maxRecDepth 100000 in
theorem rg_lt (a : Nat) : rg a < S := Nat.mod_lt _ (by decide)
set_option maxRecDepth 100000 in
theorem xor_S {a : Nat} (h : a < 2 * S) : a ^^^ 9223372036854775808 = flip a := by
  have e1 : (a ^^^ S) % S = a % S := by
    have := Nat.xor_mod_two_pow (a := a) (b := S) (n := 63)
    rw [← S_pow, Nat.mod_self, Nat.xor_zero] at this
    exact this
  have e2 : (a ^^^ S) / S = a / S ^^^ 1 := by
    have := Nat.xor_div_two_pow (a := a) (b := S) (n := 63)
    rw [← S_pow, Nat.div_self (by decide)] at this
    exact this
  have h1 := Nat.div_add_mod (a ^^^ S) S
  show a ^^^ S = flip a
  rw [e1, e2] at h1
  rw [← h1]
  unfold flip Format.word rg
  rw [sw_eq]
  rcases ng_eq a h with ⟨h2, h3⟩ | ⟨h2, h3⟩
  · rw [h2, h3]; simp
  · rw [h2, h3]; simp
set_option maxRecDepth 100000 in
theorem flip_lt (a : Nat) : flip a < 2 * S := by
  have := rg_lt a
  unfold flip Format.word
  rw [sw_eq]
  split <;> omega
set_option maxRecDepth 100000 in
theorem flip_ng (a : Nat) : ng (flip a) = !ng a := word_ng (rg_lt a)
set_option maxRecDepth 100000 in
theorem flip_rg (a : Nat) : rg (flip a) = rg a := word_rg (rg_lt a)
set_option maxRecDepth 100000 in
theorem or_S {a : Nat} (h : a < 2 * S) : a ||| 9223372036854775808 = S + rg a := by
  have e1 : (a ||| S) % S = a % S := by
    have := Nat.or_mod_two_pow (a := a) (b := S) (n := 63)
    rw [← S_pow, Nat.mod_self, Nat.or_zero] at this
    exact this
  have e2 : (a ||| S) / S = a / S ||| 1 := by
    have := Nat.or_div_two_pow (a := a) (b := S) (n := 63)
    rw [← S_pow, Nat.div_self (by decide)] at this
    exact this
  have h1 := Nat.div_add_mod (a ||| S) S
  show a ||| S = S + rg a
  rw [e1, e2] at h1
  rw [← h1]
  unfold rg
  rcases ng_eq a h with ⟨h2, h3⟩ | ⟨h2, h3⟩
  · rw [h2]; simp
  · rw [h2]; simp
set_option maxRecDepth 100000 in
theorem andNot_S (a : Nat) : a &&& (18446744073709551615 - 9223372036854775808) = rg a := by
  have := Nat.and_two_pow_sub_one_eq_mod a 63
  rw [← S_pow] at this
  exact this
set_option maxRecDepth 100000 in
theorem not_eq {a : Nat} (h : a < 2 * S) : 18446744073709551615 ^^^ a = 18446744073709551615 - a := by
  have h' : a < 2 ^ 64 := h
  have e1 : (BitVec.allOnes 64 ^^^ BitVec.ofNat 64 a).toNat = 18446744073709551615 ^^^ a := by
    rw [BitVec.toNat_xor, BitVec.toNat_allOnes, BitVec.toNat_ofNat, Nat.mod_eq_of_lt h']
  have e2 : (~~~ (BitVec.ofNat 64 a)).toNat = 18446744073709551615 - a := by
    rw [BitVec.toNat_not, BitVec.toNat_ofNat, Nat.mod_eq_of_lt h']
  rw [← e1, ← e2, BitVec.not_def, BitVec.xor_comm]
end Fl

set_option maxRecDepth 100000 in
theorem bits_andNot {a : Int} (h : U64 a) : bits .andNot .u64 a 9223372036854775808 = (Fl.rg a.toNat : Nat) := by
  rw [u64_andNot a _ h.1 h.2 (by decide) (by decide)]
  exact congrArg (fun n : Nat => (n : Int)) (Fl.andNot_S a.toNat)
set_option maxRecDepth 100000 in
theorem bits_xor {a : Int} (h : U64 a) : bits .xor .u64 a 9223372036854775808 = (Fl.flip a.toNat : Nat) := by
  rw [u64_xor a _ h.1 h.2 (by decide) (by decide)]
  exact congrArg (fun n : Nat => (n : Int)) (Fl.xor_S h.nat)
set_option maxRecDepth 100000 in
theorem bits_or {a : Int} (h : U64 a) : bits .or .u64 a 9223372036854775808 = (Fl.S + Fl.rg a.toNat : Nat) := by
  rw [u64_or a _ h.1 h.2 (by decide) (by decide)]
  exact congrArg (fun n : Nat => (n : Int)) (Fl.or_S h.nat)
set_option maxRecDepth 100000 in
theorem bits_not {a : Int} (h : U64 a) : bits .xor .u64 IntKind.u64.max a = 18446744073709551615 - a := by
  rw [show IntKind.u64.max = 18446744073709551615 from rfl, u64_xor _ a (by decide) (by decide) h.1 h.2]
  have := Fl.not_eq h.nat
  rw [show (18446744073709551615 : Int).toNat = 18446744073709551615 from rfl, this]
  have h1 := h.1
  have h2 := h.2
  omega

set_option maxRecDepth 100000 in
set_option maxHeartbeats 400000 in
theorem refNan_any (w : World) (a : Int) (h : U64 a) :
    Calls Try.prog 80 #[.int .u64 a] w fun e w' => e = .returned (.bool (Fl.nanB a.toNat)) ∧ w = w' := by
  have fin := Lib.hid (bits_andNot h)
  go_enter Try.func80, Try.ntmps80
  go_wp2
  go_ret
  rw [fin.out]
  refine ⟨?_, rfl⟩
  have : decide ((9218868437227405312 : Int) < (Fl.rg a.toNat : Nat)) = Fl.nanB a.toNat := by
    unfold Fl.nanB
    have e : Fl.INF = 9218868437227405312 := rfl
    rw [decide_eq_decide, e]
    omega
  rw [← this]
  rfl

set_option maxRecDepth 100000 in
theorem wrap_neg {a : Nat} (h : a < 2 * Fl.S) : decide (wrap64 (a : Int) < 0) = Fl.ng a := by
  have e : Fl.S = 9223372036854775808 := rfl
  have h1 := Fl.split_eq a h
  have h2 := Fl.rg_lt a
  unfold wrap64
  cases hn : Fl.ng a
  · rw [hn] at h1; simp at h1; rw [decide_eq_false_iff_not]; omega
  · rw [hn] at h1; simp at h1; rw [decide_eq_true_iff]; omega

set_option maxRecDepth 100000 in
set_option maxHeartbeats 400000 in
theorem signbit_any (w : World) (a : Nat) (h : a < 2 * Fl.S) :
    Calls Try.prog 88 #[.float .f64 a] w fun e w' => e = .returned (.bool (Fl.ng a)) ∧ w = w' := by
  have c2 := call_bits
  have fin := Lib.hid (wrap_neg h)
  go_enter Try.func88, Try.ntmps88
  go_wp2
  go_ret
  rw [← fin.out]
  exact ⟨rfl, rfl⟩

set_option maxRecDepth 100000 in
set_option maxHeartbeats 400000 in
theorem signOf_any (w : World) (a : Nat) (h : a < 2 * Fl.S) :
    Calls Try.prog 76 #[.float .f64 a] w fun e w' => e = .returned (.int .i64 (if Fl.ng a then 0 else 1)) ∧ w = w' := by
  cases hn : Fl.ng a
  all_goals
    go_enter Try.func76, Try.ntmps76
    go_wp2_with (go_at_call 88; refine (signbit_any _ _ h).mono ?_; rintro e w' ⟨rfl, rfl⟩)
    go_ret
    exact ⟨rfl, rfl⟩

/-- The order of floats, as integers. -/
def keyZ (a : Nat) : Int := if Fl.nanB a then 9223372036854775807 else if Fl.ng a then -(Fl.rg a : Int) - 1 else (Fl.rg a : Int)
def cmpN (a b : Nat) : Int := if keyZ a < keyZ b then -1 else if keyZ b < keyZ a then 1 else 0
def cmpI (a b : Int) : Int := cmpN a.toNat b.toNat

set_option maxRecDepth 100000 in
theorem refClean_any (w : World) (a : Int) (h : U64 a) :
    Calls Try.prog 83 #[.int .u64 a] w fun e w' => e = .returned (.int .u64 (cleanI a)) ∧ w = w' := by
  cases hb : Fl.nanB a.toNat with
  | true =>
    have fin : Hid (cleanI a = 9221120237041090561) := by unfold cleanI cleanN; rw [if_pos hb]; exact Lib.hid rfl
    go_enter Try.func83, Try.ntmps83
    go_wp2_with (go_at_call 80; refine (refNan_any _ _ h).mono ?_; rintro e w' ⟨rfl, rfl⟩)
    go_ret
    rw [fin.out]
    exact ⟨rfl, rfl⟩
  | false =>
    have fin : Hid (cleanI a = a) := by unfold cleanI cleanN; rw [if_neg (by rw [hb]; decide)]; exact Lib.hid (Int.toNat_of_nonneg h.1)
    go_enter Try.func83, Try.ntmps83
    go_wp2_with (go_at_call 80; refine (refNan_any _ _ h).mono ?_; rintro e w' ⟨rfl, rfl⟩)
    go_ret
    rw [fin.out]
    exact ⟨rfl, rfl⟩

set_option maxRecDepth 100000 in
set_option maxHeartbeats 400000 in
theorem refMayF_any (w : World) (a : Int) (h : U64 a) :
    Calls Try.prog 62 #[.int .u64 a] w fun e w' => e = .returned (.bool (cleanI a == a)) ∧ w = w' := by
  cases hb : Fl.nanB a.toNat with
  | true =>
    have fin : Hid (cleanI a = 9221120237041090561) := by unfold cleanI cleanN; rw [if_pos hb]; exact Lib.hid rfl
    go_enter Try.func62, Try.ntmps62
    go_wp2_with (go_at_call 80; refine (refNan_any _ _ h).mono ?_; rintro e w' ⟨rfl, rfl⟩)
    go_ret
    rw [fin.out]
    exact ⟨by simp [BEq.comm], rfl⟩
  | false =>
    have fin : Hid (cleanI a = a) := by unfold cleanI cleanN; rw [if_neg (by rw [hb]; decide)]; exact Lib.hid (Int.toNat_of_nonneg h.1)
    go_enter Try.func62, Try.ntmps62
    go_wp2_with (go_at_call 80; refine (refNan_any _ _ h).mono ?_; rintro e w' ⟨rfl, rfl⟩)
    go_ret
    rw [fin.out]
    exact ⟨by simp, rfl⟩


set_option maxRecDepth 100000 in
theorem key_pos {a : Int} (h : U64 a) (hg : Fl.ng a.toNat = false) : (a / 9223372036854775808 == 1) = false ∧ (Fl.rg a.toNat : Int) = a := by
  have e : Fl.S = 9223372036854775808 := rfl
  have h1 := Fl.split_eq _ h.nat
  have h2 := Fl.rg_lt a.toNat
  have h3 := h.1
  rw [hg] at h1
  simp at h1
  rw [beq_eq_false_iff_ne]
  omega
set_option maxRecDepth 100000 in
theorem key_neg {a : Int} (h : U64 a) (hg : Fl.ng a.toNat = true) : (a / 9223372036854775808 == 1) = true ∧ (Fl.rg a.toNat : Int) = a - 9223372036854775808 := by
  have e : Fl.S = 9223372036854775808 := rfl
  have h1 := Fl.split_eq _ h.nat
  have h2 := Fl.rg_lt a.toNat
  have h3 := h.1
  rw [hg] at h1
  simp at h1
  rw [beq_iff_eq]
  omega

set_option maxRecDepth 100000 in
set_option maxHeartbeats 400000 in
theorem key_any (w : World) (a : Int) (h : U64 a) :
    Calls Try.prog 85 #[.int .u64 a] w fun e w' => e = .returned (.int .u64 (keyZ a.toNat + 9223372036854775808)) ∧ w = w' := by
  cases hb : Fl.nanB a.toNat with
  | true =>
    have fin : Hid (keyZ a.toNat + 9223372036854775808 = 18446744073709551615) := by unfold keyZ; rw [if_pos hb]; exact Lib.hid rfl
    go_enter Try.func85, Try.ntmps85
    go_wp2_with (go_at_call 80; refine (refNan_any _ _ h).mono ?_; rintro e w' ⟨rfl, rfl⟩)
    go_ret
    rw [fin.out]
    exact ⟨rfl, rfl⟩
  | false =>
    cases hg : Fl.ng a.toNat with
    | false =>
      obtain ⟨h1, h2⟩ := key_pos h hg
      have fin : Hid (keyZ a.toNat + 9223372036854775808 = bits .or .u64 a 9223372036854775808) := by
        unfold keyZ
        rw [bits_or h, hb, hg, show Fl.S = 9223372036854775808 from rfl]
        exact Lib.hid (by simp; omega)
      clear h2 hg
      go_enter Try.func85, Try.ntmps85
      go_wp2_with (go_at_call 80; refine (refNan_any _ _ h).mono ?_; rintro e w' ⟨rfl, rfl⟩)
      go_ret
      rw [fin.out]
      exact ⟨rfl, rfl⟩
    | true =>
      obtain ⟨h1, h2⟩ := key_neg h hg
      have fin : Hid (keyZ a.toNat + 9223372036854775808 = bits .xor .u64 IntKind.u64.max a) := by
        unfold keyZ
        rw [bits_not h, hb, hg]
        exact Lib.hid (by simp; omega)
      clear h2 hg
      go_enter Try.func85, Try.ntmps85
      go_wp2_with (go_at_call 80; refine (refNan_any _ _ h).mono ?_; rintro e w' ⟨rfl, rfl⟩)
      go_ret
      rw [fin.out]
      exact ⟨rfl, rfl⟩


set_option maxRecDepth 100000 in
theorem refCmpF_any (w : World) (a b : Int) (h : U64 a) (h' : U64 b) :
    Calls Try.prog 66 #[.int .u64 a, .int .u64 b] w fun e w' => e = .returned (.int .i64 (cmpI (cleanI a) (cleanI b))) ∧ w = w' := by
  have hc := cleanI_u64 h
  have hc' := cleanI_u64 h'
  have cases3 : (keyZ (cleanI a).toNat < keyZ (cleanI b).toNat ∧ Hid (cmpI (cleanI a) (cleanI b) = -1)) ∨ ((¬ keyZ (cleanI a).toNat < keyZ (cleanI b).toNat ∧ keyZ (cleanI b).toNat < keyZ (cleanI a).toNat) ∧ Hid (cmpI (cleanI a) (cleanI b) = 1)) ∨ ((¬ keyZ (cleanI a).toNat < keyZ (cleanI b).toNat ∧ ¬ keyZ (cleanI b).toNat < keyZ (cleanI a).toNat) ∧ Hid (cmpI (cleanI a) (cleanI b) = 0)) := by
    unfold cmpI cmpN
    rcases Int.lt_trichotomy (keyZ (cleanI a).toNat) (keyZ (cleanI b).toNat) with hx | hx | hx
    · exact Or.inl ⟨hx, Lib.hid (if_pos hx)⟩
    · exact Or.inr (Or.inr ⟨⟨by omega, by omega⟩, Lib.hid (by rw [if_neg (by omega), if_neg (by omega)])⟩)
    · exact Or.inr (Or.inl ⟨⟨by omega, hx⟩, Lib.hid (by rw [if_neg (by omega), if_pos hx])⟩)
  rcases cases3 with ⟨hx, fin⟩ | ⟨⟨hx, hy⟩, fin⟩ | ⟨⟨hx, hy⟩, fin⟩
  all_goals
    go_enter Try.func66, Try.ntmps66
    go_wp2_with fail
    refine (refClean_any _ _ h).mono ?_; rintro e w' ⟨rfl, rfl⟩
    go_wp2_with fail
    refine (key_any _ _ hc).mono ?_; rintro e w' ⟨rfl, rfl⟩
    go_wp2_with fail
    refine (refClean_any _ _ h').mono ?_; rintro e w' ⟨rfl, rfl⟩
    go_wp2_with fail
    refine (key_any _ _ hc').mono ?_; rintro e w' ⟨rfl, rfl⟩
    go_wp2
    go_ret
    rw [fin.out]
    exact ⟨rfl, rfl⟩

set_option maxRecDepth 100000 in
/-- What the operators say of two floats that are no NaNs. -/
theorem flt_order {a b : Nat} (ha : Fl.nanB a = false) (hb : Fl.nanB b = false) : FloatKind.f64.format.order a b = some (compare (Fl.si a) (Fl.si b)) := by
  unfold Fl.nanB at ha hb
  have h1 := of_decide_eq_false ha
  have h2 := of_decide_eq_false hb
  show Ieee.double.order a b = _
  rw [Fl.order_any (by omega) (by omega)]
  congr 1
  have h3 := Fl.sv_lt_iff a b
  have h4 := Fl.sv_lt_iff b a
  generalize Fl.sv a = x at *
  generalize Fl.sv b = y at *
  generalize Fl.si a = u at *
  generalize Fl.si b = v at *
  rcases Int.lt_trichotomy u v with h | h | h
  · rw [Fl.cmp_lt h, Fl.cmp_lt (h3.2 h)]
  · rw [Fl.cmp_eq h, Fl.cmp_eq (by omega)]
  · rw [Fl.cmp_gt h, Fl.cmp_gt (h4.2 h)]
set_option maxRecDepth 100000 in
theorem flt_gt {a b : Nat} (ha : Fl.nanB a = false) (hb : Fl.nanB b = false) : (FloatKind.f64.format.order a b == some .gt) = decide (Fl.si b < Fl.si a) := by
  rw [flt_order ha hb, Fl.int_cmp]
  rcases Int.lt_trichotomy (Fl.si a) (Fl.si b) with h | h | h
  · rw [if_pos h, decide_eq_false (by omega)]; rfl
  · rw [if_neg (by omega), if_pos h, decide_eq_false (by omega)]; rfl
  · rw [if_neg (by omega), if_neg (by omega), decide_eq_true h]; rfl
set_option maxRecDepth 100000 in
theorem flt_lt {a b : Nat} (ha : Fl.nanB a = false) (hb : Fl.nanB b = false) : (FloatKind.f64.format.order a b == some .lt) = decide (Fl.si a < Fl.si b) := by
  rw [flt_order ha hb, Fl.int_cmp]
  rcases Int.lt_trichotomy (Fl.si a) (Fl.si b) with h | h | h
  · rw [if_pos h, decide_eq_true h]; rfl
  · rw [if_neg (by omega), if_pos h, decide_eq_false (by omega)]; rfl
  · rw [if_neg (by omega), if_neg (by omega), decide_eq_false (by omega)]; rfl
set_option maxRecDepth 100000 in
theorem flt_eq {a b : Nat} (ha : Fl.nanB a = false) (hb : Fl.nanB b = false) : (FloatKind.f64.format.order a b == some .eq) = decide (Fl.si a = Fl.si b) := by
  rw [flt_order ha hb, Fl.int_cmp]
  rcases Int.lt_trichotomy (Fl.si a) (Fl.si b) with h | h | h
  · rw [if_pos h, decide_eq_false (by omega)]; rfl
  · rw [if_neg (by omega), if_pos h, decide_eq_true h]; rfl
  · rw [if_neg (by omega), if_neg (by omega), decide_eq_false (by omega)]; rfl
set_option maxRecDepth 100000 in
theorem keyZ_num {a : Nat} (ha : Fl.nanB a = false) : keyZ a = Fl.si a - (if Fl.ng a then 1 else 0) := by
  unfold keyZ Fl.si Fl.sgnd
  rw [ha]
  cases Fl.ng a <;> simp
set_option maxRecDepth 100000 in
theorem keyZ_nan {a : Nat} (ha : Fl.nanB a = true) : keyZ a = 9223372036854775807 := if_pos ha
set_option maxRecDepth 100000 in
theorem keyZ_lt {a : Nat} (ha : Fl.nanB a = false) : keyZ a < 9223372036854775807 := by
  unfold keyZ
  rw [ha]
  unfold Fl.nanB at ha
  have := of_decide_eq_false ha
  have e : Fl.INF = 9218868437227405312 := rfl
  simp only [Bool.false_eq_true, if_false]
  split <;> omega

set_option maxRecDepth 100000 in
theorem key_mono {a b : Nat} (h : Fl.si a < Fl.si b) : Fl.si a - (if Fl.ng a then 1 else 0) < Fl.si b - (if Fl.ng b then 1 else 0) := by
  unfold Fl.si Fl.sgnd at h ⊢
  generalize Fl.rg a = x at *
  generalize Fl.rg b = y at *
  generalize Fl.ng a = g at *
  generalize Fl.ng b = g' at *
  cases g <;> cases g' <;> simp only [if_true, if_false, Bool.false_eq_true] at h ⊢ <;> omega

set_option maxRecDepth 100000 in
set_option maxHeartbeats 1000000 in
theorem fCmp_any (w : World) (a b : Int) (h : U64 a) (h' : U64 b) :
    Calls Try.prog 54 #[.int .u64 a, .int .u64 b] w fun e w' => e = .returned (.int .i64 (cmpI a b)) ∧ w = w' := by
  have c1 := call_frombits
  have hn := h.nat
  have hn' := h'.nat
  cases ha : Fl.nanB a.toNat with
  | true =>
    cases hb : Fl.nanB b.toNat with
    | true =>
      have fin : Hid (cmpI a b = 0) := Lib.hid (by unfold cmpI cmpN; rw [keyZ_nan ha, keyZ_nan hb]; rfl)
      go_enter Try.func54, Try.ntmps54
      go_wp2_with (go_at_call 75; refine (isNaN_any _ _).mono ?_; rintro e w' ⟨rfl, rfl⟩)
      go_ret
      rw [fin.out]
      exact ⟨rfl, rfl⟩
    | false =>
      have fin : Hid (cmpI a b = 1) := Lib.hid (by
        unfold cmpI cmpN; rw [keyZ_nan ha]; have := keyZ_lt hb; rw [if_neg (by omega), if_pos this])
      go_enter Try.func54, Try.ntmps54
      go_wp2_with (go_at_call 75; refine (isNaN_any _ _).mono ?_; rintro e w' ⟨rfl, rfl⟩)
      go_ret
      rw [fin.out]
      exact ⟨rfl, rfl⟩
  | false =>
    cases hb : Fl.nanB b.toNat with
    | true =>
      have fin : Hid (cmpI a b = -1) := Lib.hid (by
        unfold cmpI cmpN; rw [keyZ_nan hb]; have := keyZ_lt ha; rw [if_pos this])
      have ho : FloatKind.f64.format.order a.toNat b.toNat = none := Fl.order_nan (Or.inr hb)
      go_enter Try.func54, Try.ntmps54
      go_wp2_with (go_at_call 75; refine (isNaN_any _ _).mono ?_; rintro e w' ⟨rfl, rfl⟩)
      go_ret
      rw [fin.out]
      exact ⟨rfl, rfl⟩
    | false =>
      have k1 := keyZ_num ha
      have k2 := keyZ_num hb
      have o1 := flt_gt ha hb
      have o2 := flt_lt ha hb
      rcases Int.lt_trichotomy (Fl.si a.toNat) (Fl.si b.toNat) with hs | hs | hs
      · have fin : Hid (cmpI a b = -1) := Lib.hid (by
          unfold cmpI cmpN; rw [k1, k2]
          rw [if_pos (key_mono hs)])
        rw [decide_eq_false (by omega)] at o1
        rw [decide_eq_true hs] at o2
        clear k1 k2 hs
        go_enter Try.func54, Try.ntmps54
        go_wp2_with (go_at_call 75; refine (isNaN_any _ _).mono ?_; rintro e w' ⟨rfl, rfl⟩)
        go_ret
        rw [fin.out]
        exact ⟨rfl, rfl⟩
      · have fin : Hid (cmpI a b = (if Fl.ng a.toNat then 0 else 1) - (if Fl.ng b.toNat then 0 else 1)) := Lib.hid (by
          unfold cmpI cmpN; rw [k1, k2, hs]
          cases Fl.ng a.toNat <;> cases Fl.ng b.toNat <;> simp <;> omega)
        rw [decide_eq_false (by omega)] at o1
        rw [decide_eq_false (by omega)] at o2
        clear k1 k2 hs
        cases hga : Fl.ng a.toNat <;> cases hgb : Fl.ng b.toNat
        all_goals
          rw [hga, hgb] at fin
          have s1 := fun w => signOf_any w a.toNat hn
          have s2 := fun w => signOf_any w b.toNat hn'
          rw [hga] at s1
          rw [hgb] at s2
          go_enter Try.func54, Try.ntmps54
          go_wp2_with (go_at_call 75; refine (isNaN_any _ _).mono ?_; rintro e w' ⟨rfl, rfl⟩)
          refine (s1 _).mono ?_; rintro e w' ⟨rfl, rfl⟩
          go_wp2_with fail
          refine (s2 _).mono ?_; rintro e w' ⟨rfl, rfl⟩
          go_wp2
          go_ret
          rw [fin.out]
          exact ⟨rfl, rfl⟩
      · have fin : Hid (cmpI a b = 1) := Lib.hid (by
          unfold cmpI cmpN; rw [k1, k2]
          have : ∀ x y : Int, y < x → (if x < y then -1 else if y < x then 1 else 0 : Int) = 1 := fun x y h => by rw [if_neg (by omega), if_pos h]
          exact this _ _ (key_mono hs))
        rw [decide_eq_true hs] at o1
        rw [decide_eq_false (by omega)] at o2
        clear k1 k2 hs
        go_enter Try.func54, Try.ntmps54
        go_wp2_with (go_at_call 75; refine (isNaN_any _ _).mono ?_; rintro e w' ⟨rfl, rfl⟩)
        go_ret
        rw [fin.out]
        exact ⟨rfl, rfl⟩
end Go.Proofs.Ytmcfokeibecopaa
