/-
  WHOLE NUMBERS AS FLOATS (no Go here): exact products, quotients, differences, floors; one rounding with a mark.
  SUMS, PRODUCTS, QUOTIENTS BY POWERS OF TWO, FLOORS (no Go here).
  THE STEPS OF TAKING A WHOLE FLOAT APART, LIMB BY LIMB (no Go here).
  CONTRACTS OF math.Floor, math.Abs, real.whole.
  CONTRACT OF real.CmpNum.
-/
import Derived.Test.YtmcfokeibecopaaK5
import Derived.Test.YtmcfokeibecopaaK3
import Derived.Test.YtmcfokeibecopaaK4
import Derived.Deep.RegionHeld3
namespace Go.Proofs.Ytmcfokeibecopaa
namespace Fl
open Ieee

set_option maxRecDepth 100000 in
theorem exK : ∃ k : Nat, k = 1074 := ⟨1074, rfl⟩
/-- 1074, which the kernel cannot reckon with. -/
noncomputable def K : Nat := Classical.choose exK
set_option maxRecDepth 100000 in
theorem K_eq : K = 1074 := Classical.choose_spec exK
set_option maxRecDepth 100000 in
theorem exT : ∃ k : Nat, k = 1023 := ⟨1023, rfl⟩
noncomputable def T : Nat := Classical.choose exT
set_option maxRecDepth 100000 in
theorem T_eq : T = 1023 := Classical.choose_spec exT
noncomputable def U : Nat := 2 ^ K
set_option maxRecDepth 100000 in
theorem U_def : U = 2 ^ K := rfl
set_option maxRecDepth 100000 in
theorem U_pos : 0 < U := Nat.two_pow_pos K
/-- The rung of the float nearest to N. -/
noncomputable def ofN (N : Nat) : Nat := R (N * U) 0

set_option maxRecDepth 100000 in
theorem ofN_zero : ofN 0 = 0 := by unfold ofN; rw [Nat.zero_mul, R_zero]
set_option maxRecDepth 100000 in
theorem ofN_le (N : Nat) : ofN N ≤ INF := R_le _ _
set_option maxRecDepth 100000 in
theorem ofN_lt (N : Nat) : ofN N < S := R_lt _ _

/-- N is m * 2^k with m of 53 bits. -/
def Rep (N : Nat) : Prop := ∃ m k, N = m * 2 ^ k ∧ m ≤ 2 * B ∧ N < 2 ^ T
set_option maxRecDepth 100000 in
theorem Rep.lt {N : Nat} (h : Rep N) : N < 2 ^ T := by obtain ⟨_, _, _, _, h⟩ := h; exact h
set_option maxRecDepth 100000 in
theorem rep_small {N : Nat} (h : N ≤ 2 * B) : Rep N := ⟨N, 0, by simp, h, Nat.lt_of_le_of_lt h (by rw [← two53]; exact Nat.pow_lt_pow_right (by omega) (by have := T_eq; omega))⟩

set_option maxRecDepth 100000 in
theorem mt_at (d M : Nat) (h1 : B ≤ M) (h2 : M < 2 * B) : mt (d * B + M) = M ∧ pl (d * B + M) = d := by
  have hB := B_pos
  have e : d * B + M = B * (d + 1) + (M - B) := by rw [Nat.mul_add, Nat.mul_one, Nat.mul_comm]; omega
  have h3 : ¬ d * B + M < B := by omega
  unfold mt pl
  rw [if_neg h3, if_neg h3, e, Nat.mul_add_mod, Nat.mul_add_div hB, Nat.mod_eq_of_lt (by omega), Nat.div_eq_of_lt (show M - B < B by omega)]
  omega

set_option maxRecDepth 100000 in
theorem log2_pos {m : Nat} (h0 : m ≠ 0) : 2 ^ m.log2 ≤ m ∧ m < 2 ^ (m.log2 + 1) := ⟨Nat.log2_self_le h0, Nat.lt_log2_self⟩

set_option maxRecDepth 100000 in
theorem U_log2 (N : Nat) (h : N ≠ 0) : (N * U).log2 = N.log2 + 1074 := by rw [U_def, log2_mul N K h, K_eq]

set_option maxRecDepth 100000 in
/-- What is exact is found. -/
theorem rep_val {N : Nat} (h : Rep N) : val (ofN N) = N * U ∧ ofN N < INF := by
  obtain ⟨m, k, rfl, hm, hlt⟩ := h
  have hB := B_pos
  have hK := K_eq
  have hT := T_eq
  by_cases h0 : m = 0
  · subst h0; rw [Nat.zero_mul, ofN_zero, Nat.zero_mul, val_zero]; exact ⟨rfl, by decide⟩
  -- m below 2^53
  have norm : ∃ m' k', m * 2 ^ k = m' * 2 ^ k' ∧ m' < 2 * B ∧ m' ≠ 0 := by
    by_cases h1 : m < 2 * B
    · exact ⟨m, k, rfl, h1, h0⟩
    · refine ⟨B, k + 1, ?_, by omega, by omega⟩
      rw [show m = 2 * B by omega, Nat.pow_succ, Nat.mul_comm 2 B, Nat.mul_assoc, Nat.mul_comm 2]
  obtain ⟨m', k', e, hm', h0'⟩ := norm
  rw [e] at hlt ⊢
  clear e hm h0
  obtain ⟨l1, l2⟩ := log2_pos h0'
  have hl : m'.log2 ≤ 52 := by
    have := (Nat.log2_lt (k := 53) h0').2 (by rw [two53]; exact hm')
    omega
  have hne : m' * 2 ^ k' ≠ 0 := Nat.mul_ne_zero h0' (Nat.ne_of_gt (Nat.two_pow_pos _))
  have hL : m'.log2 + k' < 1023 := by
    have := (Nat.log2_lt hne).2 hlt
    rw [log2_mul _ _ h0'] at this
    omega
  have hM1 : B ≤ m' * 2 ^ (52 - m'.log2) := by
    rw [B_eq, show 52 = m'.log2 + (52 - m'.log2) by omega, Nat.pow_add, show m'.log2 + (52 - m'.log2) - m'.log2 = 52 - m'.log2 by omega]
    exact Nat.mul_le_mul_right _ l1
  have hM2 : m' * 2 ^ (52 - m'.log2) < 2 * B := by
    rw [← two53, show 53 = m'.log2 + 1 + (52 - m'.log2) by omega, Nat.pow_add, show 52 - m'.log2 = 52 - m'.log2 from rfl]
    have : m'.log2 + 1 + (52 - m'.log2) - (m'.log2 + 1) = 52 - m'.log2 := by omega
    exact Nat.mul_lt_mul_of_pos_right l2 (Nat.two_pow_pos _)
  have hr : ofN (m' * 2 ^ k') = (m'.log2 + k' + 1022) * B + m' * 2 ^ (52 - m'.log2) := by
    unfold ofN R
    rw [U_log2 _ hne, log2_mul _ _ h0', show max (m'.log2 + k' + 1074 - 52) 0 = m'.log2 + k' + 1022 by omega, Nat.sub_zero]
    have e2 : m' * 2 ^ k' * U = m' * 2 ^ (52 - m'.log2) * 2 ^ (m'.log2 + k' + 1022) := by
      rw [U_def, Nat.mul_assoc, Nat.mul_assoc, ← Nat.pow_add, ← Nat.pow_add]
      congr 2; omega
    rw [e2, rne_mul]
    apply Nat.min_eq_left
    have : INF = 2047 * B := by decide
    rw [this]
    have : (m'.log2 + k' + 1022) * B ≤ 2044 * B := Nat.mul_le_mul_right _ (by omega)
    omega
  obtain ⟨a1, a2⟩ := mt_at (m'.log2 + k' + 1022) _ hM1 hM2
  refine ⟨?_, ?_⟩
  · unfold val
    rw [hr, a1, a2, U_def, Nat.mul_assoc, Nat.mul_assoc, ← Nat.pow_add, ← Nat.pow_add]
    congr 2; omega
  · rw [hr]
    have : INF = 2047 * B := by decide
    rw [this]
    have : (m'.log2 + k' + 1022) * B ≤ 2044 * B := Nat.mul_le_mul_right _ (by omega)
    omega

set_option maxRecDepth 100000 in
theorem ofN_pos {N : Nat} (h : 0 < N) : 1023 * B ≤ ofN N := by
  unfold ofN R
  have hne : N ≠ 0 := by omega
  rw [U_log2 _ hne, show max (N.log2 + 1074 - 52) 0 = N.log2 + 1022 by omega, Nat.sub_zero]
  have h1 : B ≤ rne (N * U) (N.log2 + 1022) := by
    unfold rne
    refine Nat.le_trans ?_ (Nat.le_add_right _ _)
    rw [Nat.le_div_iff_mul_le (Nat.two_pow_pos _), B_eq, ← Nat.pow_add, U_def, show 52 + (N.log2 + 1022) = N.log2 + K by have := K_eq; omega, Nat.pow_add]
    exact Nat.mul_le_mul_right _ (log2_pos hne).1
  have : INF = 2047 * B := by decide
  have h2 : (N.log2 + 1022) * B = N.log2 * B + 1022 * B := Nat.add_mul ..
  have h3 : B = 4503599627370496 := rfl
  omega
set_option maxRecDepth 100000 in
theorem ofN_eq_zero {N : Nat} : ofN N = 0 ↔ N = 0 := by
  constructor
  · intro h
    rcases Nat.eq_zero_or_pos N with h0 | h0
    · exact h0
    · have := ofN_pos h0
      have h3 : B = 4503599627370496 := rfl
      omega
  · rintro rfl; exact ofN_zero

set_option maxRecDepth 100000 in
/-- A power of two more is so many binades more. -/
theorem ofN_mul {N k : Nat} (h0 : N ≠ 0) (h : N.log2 + k < 1000) : ofN (N * 2 ^ k) = ofN N + k * B := by
  have hne : N * 2 ^ k ≠ 0 := Nat.mul_ne_zero h0 (Nat.ne_of_gt (Nat.two_pow_pos _))
  have hub : ∀ M, M ≠ 0 → rne (M * U) (M.log2 + 1022) ≤ 2 * B := by
    intro M hM
    have h1 : M * U / 2 ^ (M.log2 + 1022) < 2 * B := by
      rw [Nat.div_lt_iff_lt_mul (Nat.two_pow_pos _), ← two53, ← Nat.pow_add, U_def, show 53 + (M.log2 + 1022) = M.log2 + 1 + K by have := K_eq; omega, Nat.pow_add]
      exact Nat.mul_lt_mul_of_pos_right (log2_pos hM).2 (Nat.two_pow_pos _)
    unfold rne
    split <;> omega
  have e : INF = 2047 * B := by decide
  have h3 : B = 4503599627370496 := rfl
  have hu1 := hub _ hne
  have hu2 := hub _ h0
  unfold ofN R
  rw [U_log2 _ hne, U_log2 _ h0]
  rw [log2_mul _ _ h0] at hu1 ⊢
  rw [show max (N.log2 + k + 1074 - 52) 0 = N.log2 + 1022 + k by omega, show max (N.log2 + 1074 - 52) 0 = N.log2 + 1022 by omega, Nat.sub_zero, Nat.sub_zero]
  rw [show N.log2 + k + 1022 = N.log2 + 1022 + k by omega] at hu1
  rw [show N * 2 ^ k * U = N * U * 2 ^ k by rw [Nat.mul_assoc, Nat.mul_comm (2 ^ k), ← Nat.mul_assoc], rne_shift] at hu1 ⊢
  have h4 : (N.log2 + 1022 + k) * B = (N.log2 + 1022) * B + k * B := Nat.add_mul ..
  have h5 : (N.log2 + 1022 + k) * B ≤ 2022 * B := Nat.mul_le_mul_right _ (by omega)
  rw [h4] at h5 ⊢
  omega

set_option maxRecDepth 100000 in
/-- One rounding: what lies below leaves a mark in the last bit. -/
theorem sticky {q k r : Nat} (hq : 54 ≤ q.log2) (hr : r < 2 ^ k) (h0 : 0 < r) (hlt : q.log2 + k < 900) : ofN (q * 2 ^ k + r) = ofN ((q / 2 * 2 + 1) * 2 ^ k) := by
  have hq0 : q ≠ 0 := by intro h; subst h; simp at hq
  have hk := Nat.two_pow_pos k
  -- both have the same highest bit
  have hlog : ∀ M, q / 2 * 2 * 2 ^ k ≤ M → M < (q / 2 * 2 + 2) * 2 ^ k → M.log2 = q.log2 + k := by
    intro M h1 h2
    obtain ⟨l1, l2⟩ := log2_pos hq0
    have hM : M ≠ 0 := by
      intro h
      subst h
      have : 0 < q / 2 * 2 * 2 ^ k := Nat.mul_pos (by
        have : 2 ^ 1 ≤ 2 ^ q.log2 := Nat.pow_le_pow_right (by omega) (by omega)
        omega) hk
      omega
    have e1 : 2 ^ q.log2 ≤ q / 2 * 2 := by
      have : 2 ^ q.log2 = 2 ^ (q.log2 - 1) * 2 := by rw [← Nat.pow_succ]; congr 1; omega
      omega
    have e2 : q / 2 * 2 + 2 ≤ 2 ^ (q.log2 + 1) := by
      have : 2 ^ (q.log2 + 1) = 2 ^ q.log2 * 2 := Nat.pow_succ ..
      omega
    apply Nat.le_antisymm
    · have : M < 2 ^ (q.log2 + k + 1) := by
        rw [show q.log2 + k + 1 = q.log2 + 1 + k by omega, Nat.pow_add]
        exact Nat.lt_of_lt_of_le h2 (Nat.mul_le_mul_right _ e2)
      have := (Nat.log2_lt hM).2 this
      omega
    · rw [Nat.le_log2 hM, Nat.pow_add]
      exact Nat.le_trans (Nat.mul_le_mul_right _ e1) h1
  have b1 : q / 2 * 2 * 2 ^ k ≤ q * 2 ^ k := Nat.mul_le_mul_right _ (by omega)
  have b2 : (q + 1) * 2 ^ k ≤ (q / 2 * 2 + 2) * 2 ^ k := Nat.mul_le_mul_right _ (by omega)
  have b3 : (q + 1) * 2 ^ k = q * 2 ^ k + 2 ^ k := by rw [Nat.add_mul, Nat.one_mul]
  have b4 : (q / 2 * 2 + 1) * 2 ^ k = q / 2 * 2 * 2 ^ k + 2 ^ k := by rw [Nat.add_mul, Nat.one_mul]
  have b5 : (q / 2 * 2 + 2) * 2 ^ k = q / 2 * 2 * 2 ^ k + 2 * 2 ^ k := by rw [Nat.add_mul]
  have g1 := hlog (q * 2 ^ k + r) (by omega) (by omega)
  have g2 := hlog ((q / 2 * 2 + 1) * 2 ^ k) (by omega) (by omega)
  have hne1 : q * 2 ^ k + r ≠ 0 := by omega
  have hne2 : (q / 2 * 2 + 1) * 2 ^ k ≠ 0 := by omega
  unfold ofN R
  rw [U_log2 _ hne1, U_log2 _ hne2, g1, g2]
  -- rounding both at the same place, well above
  have hD : max (q.log2 + k + 1074 - 52) 0 = (q.log2 - 54 + 2 + k) + K := by have := K_eq; omega
  rw [hD, U_def, rne_shift, rne_shift]
  congr 2
  generalize q.log2 - 54 = d''
  rw [rne_shift]
  clear hD g1 g2 hne1 hne2 b1 b2 b3 b4 b5 hlog hlt hq
  have hG : 2 ^ (d'' + 2) = 4 * 2 ^ d'' := by rw [Nat.pow_add, Nat.mul_comm]
  unfold rne
  rw [show d'' + 2 + k = (d'' + 2) + k from rfl, Nat.pow_add 2 (d'' + 2) k, hG]
  have hg := Nat.two_pow_pos d''
  generalize 2 ^ d'' = g at *
  generalize 2 ^ k = t at *
  have hGp : 0 < 4 * g := by omega
  have hda := Nat.div_add_mod q (4 * g)
  have hma := Nat.mod_lt q hGp
  generalize hc : q / (4 * g) = c at *
  generalize ha : q % (4 * g) = a at *
  -- the left side
  have e1 : (q * t + r) / (4 * g * t) = c := by
    have : q * t + r = 4 * g * t * c + (a * t + r) := by
      rw [← hda, Nat.add_mul, Nat.mul_right_comm, Nat.add_assoc]
    rw [this, Nat.mul_add_div (Nat.mul_pos hGp hk), Nat.div_eq_of_lt, Nat.add_zero]
    have : (a + 1) * t ≤ 4 * g * t := Nat.mul_le_mul_right _ (by omega)
    rw [Nat.add_mul, Nat.one_mul] at this
    omega
  have e2 : (q * t + r) % (4 * g * t) = a * t + r := by
    have : q * t + r = 4 * g * t * c + (a * t + r) := by
      rw [← hda, Nat.add_mul, Nat.mul_right_comm, Nat.add_assoc]
    rw [this, Nat.mul_add_mod, Nat.mod_eq_of_lt]
    have : (a + 1) * t ≤ 4 * g * t := Nat.mul_le_mul_right _ (by omega)
    rw [Nat.add_mul, Nat.one_mul] at this
    omega
  have e0 : q / 2 * 2 + 1 = 4 * g * c + (a / 2 * 2 + 1) := by
    have : 4 * g * c = 2 * (2 * g * c) := by rw [← Nat.mul_assoc, ← Nat.mul_assoc]
    omega
  have e3 : (q / 2 * 2 + 1) / (4 * g) = c := by
    rw [e0, Nat.mul_add_div hGp, Nat.div_eq_of_lt (by omega), Nat.add_zero]
  have e4 : (q / 2 * 2 + 1) % (4 * g) = a / 2 * 2 + 1 := by
    rw [e0, Nat.mul_add_mod, Nat.mod_eq_of_lt (by omega)]
  rw [e1, e2, e3, e4]
  have h2 : 4 * g * t = 2 * (2 * g * t) := by rw [← Nat.mul_assoc, ← Nat.mul_assoc]
  rcases Nat.lt_or_ge a (2 * g) with h | h
  · have : (a + 1) * t ≤ 2 * g * t := Nat.mul_le_mul_right _ (by omega)
    rw [Nat.add_mul, Nat.one_mul] at this
    rw [if_neg (by omega), if_neg (by omega)]
  · have : 2 * g * t ≤ a * t := Nat.mul_le_mul_right _ (by omega)
    rw [if_pos (by omega), if_pos (by omega)]

end Fl
end Go.Proofs.Ytmcfokeibecopaa

namespace Go.Proofs.Ytmcfokeibecopaa
namespace Fl
open Ieee

set_option maxRecDepth 100000 in
theorem pos_ng {a : Nat} (h : a < S) : ng a = false := by unfold ng; rw [Nat.div_eq_of_lt h]; rfl
set_option maxRecDepth 100000 in
theorem pos_rg {a : Nat} (h : a < S) : rg a = a := Nat.mod_eq_of_lt h
set_option maxRecDepth 100000 in
theorem word_false (r : Nat) : double.word false r = r := rfl

set_option maxRecDepth 100000 in
theorem near0 (s : Bool) (m k : Nat) : double.nearest s m (-1074 + (k : Int)) = double.word s (R (m * 2 ^ k) 0) := by
  have := nearest_R s m 0 k
  simpa using this

set_option maxRecDepth 100000 in
theorem add_fin {a b : Nat} (ha : rg a < INF) (hb : rg b < INF) :
    double.add a b = some (double.word (if sv a + sv b = 0 then ng a && ng b else decide (sv a + sv b < 0)) (R (sv a + sv b).natAbs 0)) := by
  unfold Format.add
  rw [read_num ha, read_num hb]
  simp only [Datum.sum, base_eq, signed_eq, Option.map_some]
  have h1 : (-1074 + ((pl (rg a) : Nat) : Int) - (-1074 + ((min (pl (rg a)) (pl (rg b)) : Nat) : Int))).toNat = pl (rg a) - min (pl (rg a)) (pl (rg b)) := by omega
  have h2 : (-1074 + ((pl (rg b) : Nat) : Int) - (-1074 + ((min (pl (rg a)) (pl (rg b)) : Nat) : Int))).toNat = pl (rg b) - min (pl (rg a)) (pl (rg b)) := by omega
  rw [h1, h2]
  unfold Format.write
  simp only []
  rw [near0]
  have hp := Nat.two_pow_pos (min (pl (rg a)) (pl (rg b)))
  have e : sv a + sv b = (sgnd (ng a) (mt (rg a) * 2 ^ (pl (rg a) - min (pl (rg a)) (pl (rg b)))) + sgnd (ng b) (mt (rg b) * 2 ^ (pl (rg b) - min (pl (rg a)) (pl (rg b))))) * ((2 ^ min (pl (rg a)) (pl (rg b)) : Nat) : Int) := by
    rw [Int.add_mul, ← sgnd_mul, ← sgnd_mul, split_pow _ _ _ (Nat.min_le_left ..), split_pow _ _ _ (Nat.min_le_right ..)]
    rfl
  rw [e]
  generalize sgnd (ng a) (mt (rg a) * 2 ^ (pl (rg a) - min (pl (rg a)) (pl (rg b)))) + sgnd (ng b) (mt (rg b) * 2 ^ (pl (rg b) - min (pl (rg a)) (pl (rg b)))) = t
  generalize 2 ^ min (pl (rg a)) (pl (rg b)) = c at *
  have hc : (0 : Int) < (c : Int) := by omega
  have e1 : t * (c : Int) = 0 ↔ t = 0 := ⟨fun h => by rcases Int.mul_eq_zero.1 h with h | h <;> omega, fun h => by rw [h, Int.zero_mul]⟩
  have e2 : t * (c : Int) < 0 ↔ t < 0 := by
    constructor
    · intro h
      rcases Int.lt_or_le t 0 with h' | h'
      · exact h'
      · have := Int.mul_nonneg h' (Int.le_of_lt hc); omega
    · intro h; exact Int.mul_neg_of_neg_of_pos h hc
  have e3 : (t * (c : Int)).natAbs = t.natAbs * c := by rw [Int.natAbs_mul, Int.natAbs_natCast]
  rw [e3]
  simp only [e1, e2]

set_option maxRecDepth 100000 in
theorem sub_eq (a b : Nat) : double.sub a b = ((double.read a).sum (double.read b).opposite).map double.write := rfl

set_option maxRecDepth 100000 in
theorem mul_fin {a b : Nat} (ha : rg a < INF) (hb : rg b < INF) :
    double.mul a b = some (double.word (ng a ^^ ng b) (R (val (rg a) * val (rg b)) 1074)) := by
  unfold Format.mul
  rw [read_num ha, read_num hb]
  simp only [Datum.product, Option.map_some]
  unfold Format.write
  simp only []
  have := nearest_R (ng a ^^ ng b) (mt (rg a) * mt (rg b)) 1074 (pl (rg a) + pl (rg b))
  rw [show (-1074 + ((pl (rg a) : Nat) : Int) + (-1074 + ((pl (rg b) : Nat) : Int))) = -1074 - ((1074 : Nat) : Int) + ((pl (rg a) + pl (rg b) : Nat) : Int) by omega, this]
  unfold val
  rw [Nat.pow_add, Nat.mul_mul_mul_comm]

set_option maxRecDepth 100000 in
/-- A product by 2^j. -/
theorem mul_pow {a b j : Nat} (ha : rg a < INF) (hb : rg b < INF) (hv : val (rg b) = 2 ^ j * U) :
    double.mul a b = some (double.word (ng a ^^ ng b) (R (val (rg a) * 2 ^ j) 0)) := by
  rw [mul_fin ha hb, hv, ← Nat.mul_assoc, U_def, K_eq]
  have := R_shift (val (rg a) * 2 ^ j) 0 1074
  rw [Nat.zero_add] at this
  rw [this]

set_option maxRecDepth 100000 in
/-- A quotient by a power of two. -/
theorem div_pow {a b : Nat} (ha : rg a < INF) (hb : rg b < INF) (hmb : mt (rg b) = B) (e : Nat) (hpl : pl (rg b) + 52 = 1074 + e) :
    double.div a b = some (double.word (ng a ^^ ng b) (R (val (rg a)) e)) := by
  unfold Format.div
  rw [read_num ha, read_num hb]
  have hB0 : B ≠ 0 := by decide
  have hBl : B.log2 = 52 := by decide
  simp only [Datum.quotient, hmb]
  rw [if_neg hB0, hBl, show double.fractionBits = 52 from rfl]
  have hl : (mt (rg a)).log2 ≤ 52 := by
    rcases Nat.eq_zero_or_pos (mt (rg a)) with h0 | h0
    · rw [h0]; decide
    · have := (Nat.log2_lt (n := mt (rg a)) (k := 53) (by omega)).2 (by rw [two53]; exact mt_lt)
      omega
  generalize hM : 52 + 2 + 52 - (mt (rg a)).log2 = more
  have hm : 54 ≤ more := by omega
  have e1 : mt (rg a) <<< more = mt (rg a) * 2 ^ (more - 52) * B := by
    rw [Nat.shiftLeft_eq, B_eq, split_pow _ _ _ (by omega)]
  rw [e1, Nat.mul_div_cancel _ B_pos, Nat.mul_mod_left]
  simp only [Option.map_some, bne_self_eq_false, Bool.toNat_false, Nat.add_zero]
  unfold Format.write
  simp only []
  have e2 : (-1074 + ((pl (rg a) : Nat) : Int) - (-1074 + ((pl (rg b) : Nat) : Int)) - (more : Int) - 1) = -1074 - ((e + (more - 51) : Nat) : Int) + ((pl (rg a) : Nat) : Int) := by omega
  rw [e2, nearest_R]
  have e3 : 2 * (mt (rg a) * 2 ^ (more - 52)) * 2 ^ pl (rg a) = val (rg a) * 2 ^ (more - 51) := by
    unfold val
    rw [show more - 51 = more - 52 + 1 by omega, Nat.pow_succ, Nat.mul_comm 2, Nat.mul_assoc _ _ 2, Nat.mul_right_comm]
  rw [e3, R_shift]

set_option maxRecDepth 100000 in
theorem cut_down (s : Bool) (n d : Nat) : (sgnd s (Toward.down.cut s n d)) = sgnd s n / ((2 ^ d : Nat) : Int) := by
  have hd := Nat.two_pow_pos d
  have key : ∀ g : Nat, 0 < g → sgnd s (n / g + (s && (n % g != 0)).toNat) = sgnd s n / (g : Int) := by
    intro g hg
    have h1 := Nat.div_add_mod n g
    have h2 := Nat.mod_lt n hg
    cases s with
    | false => simp [sgnd]
    | true =>
      simp only [sgnd, if_true, Bool.true_and]
      generalize n / g = x at *
      generalize n % g = y at *
      symm
      have hgI : (0 : Int) < (g : Int) := by omega
      have h1' : (n : Int) = (g : Int) * (x : Int) + (y : Int) := by rw [← h1]; push_cast; rfl
      by_cases hy : y = 0
      · subst hy
        simp only [bne_self_eq_false, Bool.toNat_false, Nat.add_zero]
        rw [h1', show -((g : Int) * (x : Int) + ((0 : Nat) : Int)) = (-(x : Int)) * (g : Int) by rw [Int.neg_mul, Int.mul_comm]; simp]
        exact Int.mul_ediv_cancel _ (by omega)
      · have : (y != 0) = true := by rw [bne_iff_ne]; exact hy
        rw [this]
        simp only [Bool.toNat_true]
        rw [h1']
        have e1 : -((g : Int) * (x : Int) + (y : Int)) = ((g : Int) - (y : Int)) + (-((x + 1 : Nat) : Int)) * (g : Int) := by
          push_cast
          rw [Int.neg_mul, Int.add_mul, Int.mul_comm (x : Int)]; omega
        rw [e1, Int.add_mul_ediv_right _ _ (by omega), Int.ediv_eq_zero_of_lt (by omega) (by omega)]
        omega
  unfold Toward.cut
  simp only [Nat.shiftLeft_eq, Nat.one_mul]
  rw [key _ (Nat.two_pow_pos _)]
  rcases Nat.lt_or_ge (n.log2 + 2) d with h | h
  · rw [Nat.min_eq_right (by omega)]
    have h1 : n < 2 ^ (n.log2 + 1) := Nat.lt_log2_self
    have h2 : 2 ^ (n.log2 + 1) ≤ 2 ^ (n.log2 + 2) := Nat.pow_le_pow_right (by omega) (by omega)
    have h3 : 2 ^ (n.log2 + 2) ≤ 2 ^ d := Nat.pow_le_pow_right (by omega) (by omega)
    have gen : ∀ g : Nat, n < g → sgnd s n / (g : Int) = if s = true ∧ n ≠ 0 then -1 else 0 := by
      intro g hg
      cases s with
      | false => rw [if_neg (by simp)]; simp only [sgnd, Bool.false_eq_true, if_false]; exact Int.ediv_eq_zero_of_lt (by omega) (by omega)
      | true =>
        simp only [sgnd, if_true]
        by_cases h0 : n = 0
        · subst h0; simp
        · rw [if_pos (by simp [h0])]
          rw [show -(n : Int) = ((g : Int) - (n : Int)) + (-1) * (g : Int) by omega, Int.add_mul_ediv_right _ _ (by omega), Int.ediv_eq_zero_of_lt (by omega) (by omega)]
          rfl
    rw [gen _ (by omega), gen _ (by omega)]
  · rw [Nat.min_eq_left h]

/-- The floor of a float. -/
noncomputable def flr (a : Nat) : Int := sv a / ((U : Nat) : Int)
set_option maxRecDepth 100000 in
theorem ediv_mul (x : Int) (c d : Nat) (hc : 0 < c) : x * (c : Int) / (((d * c : Nat)) : Int) = x / (d : Int) := by
  rw [Int.natCast_mul, Int.mul_ediv_mul_of_pos_left _ _ (by omega)]
set_option maxRecDepth 100000 in
/-- math.Floor of a number. -/
theorem floor_num {a : Nat} (ha : rg a < INF) : double.write ((double.read a).integral .down) = double.word (ng a) (ofN (flr a).natAbs) := by
  rw [read_num ha]
  simp only [Datum.integral]
  have hc := cut_down (ng a) (mt (rg a) <<< (-1074 + ((pl (rg a) : Nat) : Int)).toNat) (-(-1074 + ((pl (rg a) : Nat) : Int))).toNat
  have hn := natAbs_sgnd (ng a) (Toward.down.cut (ng a) (mt (rg a) <<< (-1074 + ((pl (rg a) : Nat) : Int)).toNat) (-(-1074 + ((pl (rg a) : Nat) : Int))).toNat)
  have hf : sgnd (ng a) (Toward.down.cut (ng a) (mt (rg a) <<< (-1074 + ((pl (rg a) : Nat) : Int)).toNat) (-(-1074 + ((pl (rg a) : Nat) : Int))).toNat) = flr a := by
    rw [hc]
    unfold flr sv val
    have hK := K_eq
    rw [Nat.shiftLeft_eq]
    rcases Nat.le_total (pl (rg a)) 1074 with h | h
    · rw [show (-1074 + ((pl (rg a) : Nat) : Int)).toNat = 0 by omega, show (-(-1074 + ((pl (rg a) : Nat) : Int))).toNat = 1074 - pl (rg a) by omega, Nat.pow_zero, Nat.mul_one]
      rw [U_def, show K = 1074 - pl (rg a) + pl (rg a) by omega, Nat.pow_add, sgnd_mul, ediv_mul _ _ _ (Nat.two_pow_pos _)]
    · rw [show (-(-1074 + ((pl (rg a) : Nat) : Int))).toNat = 0 by omega, show (-1074 + ((pl (rg a) : Nat) : Int)).toNat = pl (rg a) - 1074 by omega, Nat.pow_zero]
      have e1 : mt (rg a) * 2 ^ pl (rg a) = mt (rg a) * 2 ^ (pl (rg a) - 1074) * U := by rw [U_def, hK, split_pow _ _ _ h]
      rw [e1, sgnd_mul _ _ U, Int.mul_ediv_cancel _ (by have := U_pos; omega)]
      simp
  rw [hf] at hn
  rw [hn]
  unfold Format.write
  simp only []
  have := near0 (ng a) (Toward.down.cut (ng a) (mt (rg a) <<< (-1074 + ((pl (rg a) : Nat) : Int)).toNat) (-(-1074 + ((pl (rg a) : Nat) : Int))).toNat) 1074
  rw [show (-1074 + ((1074 : Nat) : Int)) = 0 by omega] at this
  rw [this]
  unfold ofN
  rw [U_def, K_eq]

end Fl
end Go.Proofs.Ytmcfokeibecopaa

namespace Go.Proofs.Ytmcfokeibecopaa
namespace Fl
open Ieee

set_option maxRecDepth 100000 in
theorem read_flip (b : Nat) : double.read (flip b) = (double.read b).opposite := by
  have h1 := flip_rg b
  have h2 := flip_ng b
  rcases Nat.lt_trichotomy (rg b) INF with h | h | h
  · rw [read_num h, read_num (a := flip b) (by rw [h1]; exact h), h1, h2]; rfl
  · rw [read_inf h, read_inf (a := flip b) (by rw [h1]; exact h), h2]; rfl
  · rw [read_nan h, read_nan (a := flip b) (by rw [h1]; exact h), h1, h2]; rfl
set_option maxRecDepth 100000 in
theorem sub_eq_add (a b : Nat) : double.sub a b = double.add a (flip b) := by
  unfold Format.sub Format.add
  rw [read_flip]

set_option maxRecDepth 100000 in
theorem cut_zero (s : Bool) (n d : Nat) : Toward.zero.cut s n d = n / 2 ^ d := by
  unfold Toward.cut
  simp only [Nat.shiftLeft_eq, Nat.one_mul, Bool.toNat_false, Nat.add_zero]
  rcases Nat.lt_or_ge (n.log2 + 2) d with h | h
  · rw [Nat.min_eq_right (by omega)]
    have h1 : n < 2 ^ (n.log2 + 1) := Nat.lt_log2_self
    have h2 : 2 ^ (n.log2 + 1) ≤ 2 ^ (n.log2 + 2) := Nat.pow_le_pow_right (by omega) (by omega)
    have h3 : 2 ^ (n.log2 + 2) ≤ 2 ^ d := Nat.pow_le_pow_right (by omega) (by omega)
    rw [Nat.div_eq_of_lt (by omega), Nat.div_eq_of_lt (by omega)]
  · rw [Nat.min_eq_left h]
set_option maxRecDepth 100000 in
/-- int(x) of a whole x. -/
theorem toInt_num {a M : Nat} (ha : rg a < INF) (hv : val (rg a) = M * U) : (double.read a).toInt .zero = some (sgnd (ng a) M) := by
  rw [read_num ha]
  simp only [Datum.toInt, Datum.integral, cut_zero, signed_eq, Nat.pow_zero, Nat.mul_one]
  congr 2
  have hK := K_eq
  unfold val at hv
  rw [Nat.shiftLeft_eq]
  rcases Nat.le_total (pl (rg a)) 1074 with h | h
  · rw [show (-1074 + ((pl (rg a) : Nat) : Int)).toNat = 0 by omega, show (-(-1074 + ((pl (rg a) : Nat) : Int))).toNat = 1074 - pl (rg a) by omega, Nat.pow_zero, Nat.mul_one]
    rw [U_def, show K = 1074 - pl (rg a) + pl (rg a) by omega, Nat.pow_add, ← Nat.mul_assoc] at hv
    have := Nat.eq_of_mul_eq_mul_right (Nat.two_pow_pos _) hv
    rw [this, Nat.mul_div_cancel _ (Nat.two_pow_pos _)]
  · rw [show (-(-1074 + ((pl (rg a) : Nat) : Int))).toNat = 0 by omega, show (-1074 + ((pl (rg a) : Nat) : Int)).toNat = pl (rg a) - 1074 by omega, Nat.pow_zero, Nat.div_one]
    rw [U_def, hK, ← split_pow _ _ _ h] at hv
    exact Nat.eq_of_mul_eq_mul_right (Nat.two_pow_pos _) hv

/-- 2^32 as a float. -/
def C32 : Nat := 4751297606875873280
set_option maxRecDepth 100000 in
theorem c32_rg : rg C32 = 1055 * B := by decide
set_option maxRecDepth 100000 in
theorem c32_ng : ng C32 = false := by decide
set_option maxRecDepth 100000 in
theorem c32_mt : mt (1055 * B) = B := by decide
set_option maxRecDepth 100000 in
theorem c32_pl : pl (1055 * B) = 1054 := by decide
set_option maxRecDepth 100000 in
theorem c32_fin : rg C32 < INF := by decide
set_option maxRecDepth 100000 in
theorem val_binade (k j : Nat) (hk : 1 ≤ k) (h : k + 51 = j + K) : val (k * B) = 2 ^ j * U := by
  have e : k * B = (k - 1) * B + B := by
    have : k - 1 + 1 = k := by omega
    conv => lhs; rw [← this, Nat.add_mul, Nat.one_mul]
  obtain ⟨a1, a2⟩ := mt_at (k - 1) B (Nat.le_refl _) (by have := B_pos; omega)
  rw [e, val, a1, a2, B_eq, U_def, ← Nat.pow_add, ← Nat.pow_add]
  exact congrArg (fun x => 2 ^ x) (by omega)
set_option maxRecDepth 100000 in
theorem c32_val : val (rg C32) = 2 ^ 32 * U := by
  rw [c32_rg]; exact val_binade 1055 32 (by omega) (by rw [K_eq])
set_option maxRecDepth 100000 in
theorem e32 : 4294967296 = 2 ^ 32 := by decide
set_option maxRecDepth 100000 in
theorem fb_add (a b : Nat) : floatBits .add .f64 a b = double.add a b := rfl
set_option maxRecDepth 100000 in
theorem fb_sub (a b : Nat) : floatBits .sub .f64 a b = double.sub a b := rfl
set_option maxRecDepth 100000 in
theorem fb_mul (a b : Nat) : floatBits .mul .f64 a b = double.mul a b := rfl
set_option maxRecDepth 100000 in
theorem fb_quo (a b : Nat) : floatBits .quo .f64 a b = double.div a b := rfl
set_option maxRecDepth 100000 in
theorem xor_ff : (false ^^ false) = false := rfl

set_option maxRecDepth 100000 in
/-- Binades below. -/
theorem val_sub {r k : Nat} (h : (k + 1) * B ≤ r) : val (r - k * B) * 2 ^ k = val r := by
  have hB := B_pos
  have h0 : (k + 1) * B = k * B + B := by rw [Nat.add_mul, Nat.one_mul]
  have e := Nat.div_add_mod r B
  have hm := Nat.mod_lt r hB
  have h1 : k + 1 ≤ r / B := (Nat.le_div_iff_mul_le hB).2 h
  have hkB : B * k = k * B := Nat.mul_comm ..
  have e1 : r - k * B = B * (r / B - k) + r % B := by
    rw [Nat.mul_sub]
    have : B * k ≤ B * (r / B) := Nat.mul_le_mul_left _ (by omega)
    omega
  have e2 : (r - k * B) / B = r / B - k := by rw [e1, Nat.mul_add_div hB, Nat.div_eq_of_lt hm, Nat.add_zero]
  have e3 : (r - k * B) % B = r % B := by rw [e1, Nat.mul_add_mod, Nat.mod_eq_of_lt hm]
  have n1 : ¬ r < B := by omega
  have n2 : ¬ r - k * B < B := by omega
  unfold val mt pl
  rw [if_neg n1, if_neg n1, if_neg n2, if_neg n2, e2, e3, Nat.mul_assoc, ← Nat.pow_add]
  congr 2; omega

set_option maxRecDepth 100000 in
theorem f64_format : FloatKind.f64.format = double := rfl
set_option maxRecDepth 100000 in
theorem Rep.fin {N : Nat} (h : Rep N) : rg (ofN N) < INF := by rw [pos_rg (ofN_lt N)]; exact (rep_val h).2
set_option maxRecDepth 100000 in
theorem Rep.val' {N : Nat} (h : Rep N) : val (rg (ofN N)) = N * U := by rw [pos_rg (ofN_lt N)]; exact (rep_val h).1
set_option maxRecDepth 100000 in
theorem Rep.sv {N : Nat} (h : Rep N) : sv (ofN N) = (N * U : Nat) := by
  unfold Fl.sv sgnd; rw [pos_ng (ofN_lt N), h.val']; rfl

set_option maxRecDepth 100000 in
/-- rest / 2^32 -/
theorem quo32 {N : Nat} (h : Rep N) (h0 : N ≠ 0) : floatBits .quo .f64 (ofN N) C32 = some (ofN N - 32 * B) := by
  rw [fb_quo, div_pow h.fin c32_fin (by rw [c32_rg, c32_mt]) 32 (by rw [c32_rg, c32_pl]), pos_ng (ofN_lt N), c32_ng, h.val']
  have h1 := ofN_pos (N := N) (by omega)
  have hB : B = 4503599627370496 := rfl
  have h2 := val_sub (r := ofN N) (k := 32) (by omega)
  rw [(rep_val h).1] at h2
  have h3 := (rep_val h).2
  rw [← h2, R_val' (by omega), xor_ff, word_false]
set_option maxRecDepth 100000 in
theorem quo32_fin {N : Nat} (h : Rep N) : rg (ofN N - 32 * B) < INF := by
  have h3 := (rep_val h).2
  have : INF < S := INF_lt_S
  rw [pos_rg (by omega)]; omega
set_option maxRecDepth 100000 in
theorem quo32_flr {N : Nat} (h : Rep N) (h0 : N ≠ 0) : flr (ofN N - 32 * B) = ((N / 4294967296 : Nat) : Int) := by
  have h3 := (rep_val h).2
  have hS : INF < S := INF_lt_S
  have hlt : ofN N - 32 * B < S := by omega
  have h1 := ofN_pos (N := N) (by omega)
  have hB : B = 4503599627370496 := rfl
  have h2 := val_sub (r := ofN N) (k := 32) (by omega)
  rw [(rep_val h).1] at h2
  unfold flr sv sgnd
  rw [pos_ng hlt, pos_rg hlt]
  simp only [Bool.false_eq_true, if_false]
  rw [← Int.natCast_ediv]
  refine congrArg (fun x : Nat => (x : Int)) ?_
  have hp := Nat.two_pow_pos 32
  rw [← Nat.mul_div_mul_right _ _ hp, h2, Nat.mul_comm U, Nat.mul_div_mul_right _ _ U_pos, e32]
set_option maxRecDepth 100000 in
theorem quo32_ng {N : Nat} (h : Rep N) : ng (ofN N - 32 * B) = false := by
  have h3 := (rep_val h).2
  have hS : INF < S := INF_lt_S
  exact pos_ng (by omega)
set_option maxRecDepth 100000 in
theorem rep_div {N : Nat} (h : Rep N) : Rep (N / 4294967296) := by
  obtain ⟨m, k, e, hm, hl⟩ := h
  have hle : N / 4294967296 ≤ N := Nat.div_le_self ..
  rcases Nat.le_total 32 k with h | h
  · refine ⟨m, k - 32, ?_, hm, Nat.lt_of_le_of_lt hle hl⟩
    rw [e, e32, ← split_pow m k 32 h, Nat.mul_div_cancel _ (Nat.two_pow_pos 32)]
  · apply rep_small
    rw [e, show 4294967296 = 2 ^ (32 - k) * 2 ^ k by rw [← Nat.pow_add, show 32 - k + k = 32 by omega, e32], Nat.mul_div_mul_right _ _ (Nat.two_pow_pos k)]
    exact Nat.le_trans (Nat.div_le_self ..) hm
set_option maxRecDepth 100000 in
theorem rep_mul {N : Nat} (h : Rep N) : Rep (N / 4294967296 * 4294967296) := by
  obtain ⟨m, k, e, hm, hl⟩ := rep_div h
  refine ⟨m, k + 32, ?_, hm, Nat.lt_of_le_of_lt (Nat.div_mul_le_self ..) h.lt⟩
  rw [e, Nat.pow_add, Nat.mul_assoc, e32]
set_option maxRecDepth 100000 in
theorem mul32a {N : Nat} (h : Rep N) : floatBits .mul .f64 (ofN N) C32 = some (double.word (ng (ofN N) ^^ ng C32) (R (val (rg (ofN N)) * 2 ^ 32) 0)) := by
  rw [fb_mul, mul_pow h.fin c32_fin c32_val]
set_option maxRecDepth 100000 in
theorem mul32b {N : Nat} (h : Rep N) : some (double.word (ng (ofN N) ^^ ng C32) (R (val (rg (ofN N)) * 2 ^ 32) 0)) = some (R (N * U * 2 ^ 32) 0) := by
  rw [pos_ng (ofN_lt N), c32_ng, h.val', xor_ff, word_false]
set_option maxRecDepth 100000 in
theorem mul32c (N : Nat) : N * U * 2 ^ 32 = N * 4294967296 * U := by rw [Nat.mul_right_comm, ← e32]
set_option maxRecDepth 100000 in
theorem ofN_def (N : Nat) : ofN N = R (N * U) 0 := by unfold ofN; rfl
set_option maxRecDepth 100000 in
theorem mul32d (N : Nat) : some (R (N * U * 2 ^ 32) 0) = some (R (N * 4294967296 * U) 0) := by rw [mul32c]
set_option maxRecDepth 100000 in
theorem mul32e (N : Nat) : some (R (N * 4294967296 * U) 0) = some (ofN (N * 4294967296)) := by rw [ofN_def]
set_option maxRecDepth 100000 in
theorem mul32 {N : Nat} (h : Rep N) : floatBits .mul .f64 (ofN N) C32 = some (ofN (N * 4294967296)) := by
  rw [mul32a h, mul32b h]
  exact (mul32d N).trans (mul32e N)
set_option maxRecDepth 100000 in
theorem flip_pos {b : Nat} (h : b < S) : ng (flip b) = true ∧ rg (flip b) = b := by
  rw [flip_ng, flip_rg, pos_ng h, pos_rg h]; exact ⟨rfl, rfl⟩
set_option maxRecDepth 100000 in
theorem sub_repa {N M : Nat} (h : Rep N) (h' : Rep M) (hle : M ≤ N) : double.add (ofN N) (flip (ofN M)) = some (double.word (if sv (ofN N) + sv (flip (ofN M)) = 0 then ng (ofN N) && ng (flip (ofN M)) else decide (sv (ofN N) + sv (flip (ofN M)) < 0)) (R (sv (ofN N) + sv (flip (ofN M))).natAbs 0)) ∧ sv (ofN N) + sv (flip (ofN M)) = (((N - M) * U : Nat) : Int) := by
  obtain ⟨f1, f2⟩ := flip_pos (ofN_lt M)
  have hfin : rg (flip (ofN M)) < INF := by rw [f2]; exact (rep_val h').2
  have hsv : sv (flip (ofN M)) = -((M * U : Nat) : Int) := by
    unfold sv sgnd; rw [f1, f2, (rep_val h').1]; rfl
  refine ⟨add_fin h.fin hfin, ?_⟩
  rw [h.sv, hsv]
  have hm : M * U ≤ N * U := Nat.mul_le_mul_right _ hle
  rw [Nat.sub_mul]; omega
set_option maxRecDepth 100000 in
theorem sub_repb {x : Int} {D : Nat} (h : x = ((D * U : Nat) : Int)) (g : Bool) (hN : g = false) (f : Bool) : some (double.word (if x = 0 then g && f else decide (x < 0)) (R x.natAbs 0)) = some (ofN D) := by
  have e2 : decide (x < 0) = false := decide_eq_false (by omega)
  have e3 : x.natAbs = D * U := by omega
  have e4 : double.word (if x = 0 then g && f else decide (x < 0)) (R x.natAbs 0) = R (D * U) 0 := by
    rw [e2, e3, hN]
    simp only [Bool.false_and, ite_self]
    exact word_false _
  exact congrArg some (e4.trans (ofN_def D).symm)
set_option maxRecDepth 100000 in
theorem sub_rep {N M : Nat} (h : Rep N) (h' : Rep M) (hle : M ≤ N) : floatBits .sub .f64 (ofN N) (ofN M) = some (ofN (N - M)) :=
  ((fb_sub _ _).trans (sub_eq_add _ _)).trans ((sub_repa h h' hle).1.trans (sub_repb (sub_repa h h' hle).2 _ (pos_ng (ofN_lt N)) _))
set_option maxRecDepth 100000 in
theorem decode_eq (b : Nat) : FloatKind.decode .f64 b = double.read b := rfl
set_option maxRecDepth 100000 in
theorem u32_min : IntKind.u32.min = 0 := rfl
set_option maxRecDepth 100000 in
theorem u32_max : IntKind.u32.max = 4294967295 := rfl
set_option maxRecDepth 100000 in
theorem conv_some {b : Nat} {z : Int} (h : (double.read b).toInt .zero = some z) (h1 : 0 ≤ z) (h2 : z ≤ 4294967295) : floatToIntVal .f64 b .u32 = some z := by
  unfold floatToIntVal
  rw [decode_eq, h]
  simp only []
  rw [if_pos ⟨by rw [u32_min]; exact h1, by rw [u32_max]; exact h2⟩]
set_option maxRecDepth 100000 in
theorem rep32 {M : Nat} (h : M < 4294967296) : Rep M := rep_small (by
  have : B = 4503599627370496 := rfl
  omega)
set_option maxRecDepth 100000 in
theorem toInt_rep {M : Nat} (h : Rep M) : (double.read (ofN M)).toInt .zero = some (M : Int) := by
  have h1 := toInt_num (a := ofN M) (M := M) h.fin h.val'
  rw [pos_ng (ofN_lt M)] at h1
  rw [h1]
  unfold sgnd
  rw [if_neg (by decide)]
set_option maxRecDepth 100000 in
theorem conv32 {M : Nat} (h : M < 4294967296) : floatToIntVal .f64 (ofN M) .u32 = some (M : Int) :=
  conv_some (toInt_rep (rep32 h)) (by omega) (by omega)

set_option maxRecDepth 100000 in
/-- A whole float between the bounds has a floor that is exact. -/
theorem flr_rep {a : Nat} (hb : rg a ≤ 1279 * B) : Rep (flr a).natAbs := by
  have hB := B_pos
  have hK := K_eq
  have hlt : (flr a).natAbs < 2 ^ T := by
    have h1 := val_le hb
    have h2 : val (1279 * B) = 2 ^ 256 * U := val_binade 1279 256 (by omega) (by rw [K_eq])
    rw [h2] at h1
    have h3 : (flr a).natAbs ≤ 2 ^ 256 := by
      have hU := U_pos
      have hUI : (0 : Int) < (U : Int) := by omega
      have ha := natAbs_sgnd (ng a) (val (rg a))
      have h4 : -((2 ^ 256 * U : Nat) : Int) ≤ sv a ∧ sv a ≤ ((2 ^ 256 * U : Nat) : Int) := by unfold sv; omega
      rw [Int.natCast_mul] at h4
      have h5 : flr a ≤ ((2 ^ 256 : Nat) : Int) := by
        have := Int.ediv_le_ediv hUI h4.2
        rwa [Int.mul_ediv_cancel _ (by omega)] at this
      have h6 : -((2 ^ 256 : Nat) : Int) ≤ flr a := by
        have := Int.ediv_le_ediv hUI h4.1
        rwa [← Int.neg_mul, Int.mul_ediv_cancel _ (by omega)] at this
      omega
    refine Nat.lt_of_le_of_lt h3 (Nat.pow_lt_pow_right (by omega) (by have := T_eq; omega))
  rcases Nat.le_total 1074 (pl (rg a)) with h | h
  · refine ⟨mt (rg a), pl (rg a) - 1074, ?_, Nat.le_of_lt mt_lt, hlt⟩
    have e1 : val (rg a) = mt (rg a) * 2 ^ (pl (rg a) - 1074) * U := by unfold val; rw [U_def, hK, split_pow _ _ _ h]
    unfold flr sv
    rw [e1, sgnd_mul _ _ U, Int.mul_ediv_cancel _ (by have := U_pos; omega), natAbs_sgnd]
  · apply rep_small
    have h1 : val (rg a) ≤ 2 * B * U := by
      unfold val
      exact Nat.mul_le_mul (Nat.le_of_lt mt_lt) (by rw [U_def]; exact Nat.pow_le_pow_right (by omega) (by omega))
    have hU := U_pos
    have hUI : (0 : Int) < (U : Int) := by omega
    have ha := natAbs_sgnd (ng a) (val (rg a))
    have h4 : -((2 * B * U : Nat) : Int) ≤ sv a ∧ sv a ≤ ((2 * B * U : Nat) : Int) := by unfold sv; omega
    rw [Int.natCast_mul] at h4
    have h5 : flr a ≤ ((2 * B : Nat) : Int) := by
      have := Int.ediv_le_ediv hUI h4.2
      rwa [Int.mul_ediv_cancel _ (by omega)] at this
    have h6 : -((2 * B : Nat) : Int) ≤ flr a := by
      have := Int.ediv_le_ediv hUI h4.1
      rwa [← Int.neg_mul, Int.mul_ediv_cancel _ (by omega)] at this
    omega
end Fl
end Go.Proofs.Ytmcfokeibecopaa

namespace Go.Proofs.Ytmcfokeibecopaa
open Go.RowKit

set_option maxRecDepth 100000 in
theorem floor_shape (a : Nat) (s : Bool) (m : Nat) (p : Int) (hd : FloatKind.f64.decode a = .number s m p) : Extern.MathFloor.toIntegral "math.archFloor" .down #[.float .f64 a] = pure (.float .f64 (FloatKind.f64.encode (Ieee.Datum.integral .down (.number s m p)))) := by
  show Extern.MathFloor.toIntegral.match_1 (fun _ => Sem Value) (FloatKind.f64.decode a) _ _ = _
  rw [hd]
set_option maxRecDepth 100000 in
theorem encode_eq (d : Ieee.Datum) : FloatKind.f64.encode d = Ieee.double.write d := rfl
set_option maxRecDepth 100000 in
theorem call_floor (a : Nat) (h : Fl.rg a < Fl.INF) (w : World) :
    (callFunc 90 #[.float .f64 a]).run Try.prog w = .ok (.value (.float .f64 (Ieee.double.word (Fl.ng a) (Fl.ofN (Fl.flr a).natAbs)))) w := by
  rw [run_callFunc_extern (e := Extern.MathFloor.toIntegral "math.archFloor" .down) Try.func90 (by kernel_rfl) (by kernel_rfl) (by kernel_rfl) (by kernel_rfl)]
  have h1 := Fl.floor_num h
  rw [floor_shape a _ _ _ (by rw [Fl.decode_eq]; exact Fl.read_num h), encode_eq, ← Fl.read_num h, h1]
  rfl

set_option maxRecDepth 100000 in
set_option maxHeartbeats 400000 in
theorem floor_any (w : World) (a : Nat) (h : Fl.rg a < Fl.INF) :
    Calls Try.prog 78 #[.float .f64 a] w fun e w' => e = .returned (.float .f64 (Ieee.double.word (Fl.ng a) (Fl.ofN (Fl.flr a).natAbs))) ∧ w = w' := by
  have c3 := fun w => call_floor a h w
  go_enter Try.func78, Try.ntmps78
  go_wp2
  go_ret
  exact ⟨rfl, rfl⟩

set_option maxRecDepth 100000 in
set_option maxHeartbeats 400000 in
theorem abs_any (w : World) (a : Nat) (h : a < 2 * Fl.S) :
    Calls Try.prog 89 #[.float .f64 a] w fun e w' => e = .returned (.float .f64 (Fl.rg a)) ∧ w = w' := by
  have c1 := call_frombits
  have c2 := call_bits
  have hu := U64.mk h
  have fin : Hid ((bits .andNot .u64 (a : Int) 9223372036854775808).toNat = Fl.rg a) := Lib.hid (by
    rw [bits_andNot hu]; simp)
  go_enter Try.func89, Try.ntmps89
  go_wp2
  go_ret
  rw [← fin.out]
  exact ⟨rfl, rfl⟩


set_option maxRecDepth 100000 in
theorem whole_sign {g : Bool} {K : Nat} : (FloatKind.f64.format.order (Ieee.double.word g (Fl.ofN K)) 0 == some .lt) = decide (sgn g K < 0) := by
  have hn : Fl.nanB (Ieee.double.word g (Fl.ofN K)) = false := by
    unfold Fl.nanB
    rw [Fl.word_rg (Fl.ofN_lt K)]
    exact decide_eq_false (by have := Fl.ofN_le K; omega)
  rw [flt_lt hn (by decide)]
  have h0 : Fl.si 0 = 0 := by decide
  have h1 := @Fl.ofN_eq_zero K
  rw [h0]
  unfold Fl.si
  rw [Fl.word_rg (Fl.ofN_lt K), Fl.word_ng (Fl.ofN_lt K)]
  unfold Fl.sgnd sgn
  rw [decide_eq_decide]
  cases g <;> simp <;> omega
set_option maxRecDepth 100000 in
theorem rest_pos (N : Nat) : (FloatKind.f64.format.order (Fl.ofN N) 0 == some .gt) = decide (N ≠ 0) := by
  have hn : Fl.nanB (Fl.ofN N) = false := by
    unfold Fl.nanB
    rw [Fl.pos_rg (Fl.ofN_lt N)]
    exact decide_eq_false (by have := Fl.ofN_le N; omega)
  rw [flt_gt hn (by decide)]
  have h0 : Fl.si 0 = 0 := by decide
  have h1 := @Fl.ofN_eq_zero N
  rw [h0]
  unfold Fl.si
  rw [Fl.pos_rg (Fl.ofN_lt N), Fl.pos_ng (Fl.ofN_lt N)]
  unfold Fl.sgnd
  rw [decide_eq_decide]
  simp
  omega

set_option maxRecDepth 100000 in
set_option maxRecDepth 100000 in
set_option maxHeartbeats 2000000 in
theorem whole_any (w : World) (g : Bool) (K : Nat) (hr : Fl.Rep K) (hK : K < Lm.top) :
    Calls Try.prog 77 #[.float .f64 (Ieee.double.word g (Fl.ofN K))] w (OnePost w (sgn g K)) := by
  have hw : Ieee.double.word g (Fl.ofN K) < 2 * Fl.S := by
    have := Fl.ofN_lt K
    unfold Ieee.Format.word; rw [Fl.sw_eq]; split <;> omega
  have hrg : Hid (Fl.rg (Ieee.double.word g (Fl.ofN K)) = Fl.ofN K) := Lib.hid (Fl.word_rg (Fl.ofN_lt K))
  have hsg : Hid ((FloatKind.f64.format.order (Ieee.double.word g (Fl.ofN K)) 0 == some .lt) = decide (sgn g K < 0)) := Lib.hid whole_sign
  have hlen : Hid ((Lm.digits K).length ≤ 8) := Lib.hid ((Lm.top_iff K).2 hK)
  clear hK
  generalize Ieee.double.word g (Fl.ofN K) = f at *
  go_enter Try.func77, Try.ntmps77
  go_wp2_with fail
  refine (abs_any _ _ hw).mono ?_
  rintro e w' ⟨rfl, rfl⟩
  rw [hrg.out, hsg.out]
  go_wp2_with fail
  have hb0 := ((Below.refl w.heap.size w).alloc (Nat.le_refl _) (.cells #[.bool false, .slice none 0 0] 24)).alloc (by simp) (.cells #[.bool (decide (sgn g K < 0)), .slice none 0 0] 24)
  have hx2 := (Box.new w (.bool false) (.slice none 0 0)).alloc (.cells #[.bool (decide (sgn g K < 0)), .slice none 0 0] 24)
  have hx3 := Box.new (w.alloc (.cells #[.bool false, .slice none 0 0] 24)) (.bool (decide (sgn g K < 0))) (.slice none 0 0)
  simp only [World.size_alloc] at hx3
  have hsz : ((w.alloc (.cells #[.bool false, .slice none 0 0] 24)).alloc (.cells #[.bool (decide (sgn g K < 0)), .slice none 0 0] 24)).heap.size = w.heap.size + 2 := by simp
  generalize (w.alloc (.cells #[.bool false, .slice none 0 0] 24)).alloc (.cells #[.bool (decide (sgn g K < 0)), .slice none 0 0] 24) = W at *
  go_loopw [4] (fun v w' => ∃ (N j : Nat) (A' : Option Addr) (c' : Nat) (t : List Nat), v = .float .f64 (Fl.ofN N) ∧ Fl.Rep N ∧ N ≤ K ∧ j ≤ 8 ∧ Own w' (w.heap.size + 2) A' j c' t ∧ Box w' w.heap.size (.bool false) (.slice none 0 0) ∧ Box w' (w.heap.size + 1) (.bool (decide (sgn g K < 0))) (.slice A' j c') ∧ Below w.heap.size w w' ∧ w.heap.size + 2 ≤ w'.heap.size ∧ Hid (Lm.digits K = t ++ Lm.digits N ∧ (Lm.digits N).length + j ≤ 8)) (fun v _ => match v with | .float _ b => b | _ => 0)
  case atStart => exact ⟨K, 0, none, 0, [], rfl, hr, Nat.le_refl _, by omega, Own.nil _ _, hx2, hx3, hb0, by omega, Lib.hid ⟨rfl, by have := hlen.out; omega⟩⟩
  case round =>
    obtain ⟨N, j, A', c', t, rfl, hrN, hNK, hj, ho, hB2, hB3, hbl, hsz', hinv⟩ := hrel
    have hpos := rest_pos N
    have hc1 := hB3.c1
    have hc0 := hB3.c0
    have hf1 := hB3.f1
    by_cases h0 : N = 0
    · rw [decide_eq_false (by simp [h0])] at hpos
      have hfin : Hid (Lm.digits K = t) := Lib.hid (by have := hinv.out.1; rw [h0, Lm.digits_zero, List.append_nil] at this; exact this)
      have hd0 := hB2.c0
      have hd1 := hB2.c1
      have hg0 := hB2.f0
      have hg1 := hB2.f1
      clear h0 hrN
      have ho' : Own wr (w.heap.size + 2) A' j c' (Lm.digits (sgn g K).natAbs) := by rw [natAbs_sgn, hfin.out]; exact ho
      obtain ⟨hE1, hE2, hE3⟩ := close_num (z := sgn g K) (base' := w.heap.size) hB2 (Nat.le_refl _) hbl (Lib.hid rfl) ho' (by omega)
      go_wp2
      generalize (wr.setCell ⟨w.heap.size, 0, none⟩ (.bool (decide (sgn g K < 0)))).setCell ⟨w.heap.size, 1, none⟩ (.slice A' j c') = Z at *
      have hy0 := hE1.c0
      have hy1 := hE1.c1
      refine bodyPost_ret (v := .agg #[.bool (decide (sgn g K < 0)), .slice A' j c']) (by simp [results, Try.results77, go_sem, hy0, hy1]) rfl ?_
      exact ⟨_, rfl, hE2, hE3⟩
    · rw [decide_eq_true h0] at hpos
      have q1 := fun w => run_float_arith (P := Try.prog) w .quo 87 .f64 _ _ _ (Fl.quo32 hrN h0)
      have q2 := fun w => run_float_arith (P := Try.prog) w .mul 87 .f64 _ _ _ (Fl.mul32 (Fl.rep_div hrN))
      have q3 := fun w => run_float_arith (P := Try.prog) w .sub 87 .f64 _ _ _ (Fl.sub_rep hrN (Fl.rep_mul hrN) (Nat.div_mul_le_self ..))
      have q4 := fun w => run_convert_float_int (P := Try.prog) w 87 60 .f64 .u32 (Fl.ofN (N - N / 4294967296 * 4294967296)) _ (by kernel_rfl) Try.underlying60 (Fl.conv32 (M := N - N / 4294967296 * 4294967296) (by omega))
      have hfl := fun w => floor_any w _ (Fl.quo32_fin hrN)
      rw [Fl.quo32_ng hrN, Fl.quo32_flr hrN h0, Int.natAbs_natCast, Fl.word_false] at hfl
      have hC : Fl.C32 = 4751297606875873280 := rfl
      rw [hC] at q1 q2
      clear hC
      go_wp2_with fail
      refine (hfl _).mono ?_
      rintro e w' ⟨rfl, rfl⟩
      obtain ⟨A2, c2, w2, hrun, hO2, hBe2⟩ := append_one wr (w.heap.size + 2) A' j c' t ho (N - N / 4294967296 * 4294967296) (by omega) (by omega) hsz' 22
      have hR := Lib.hid hrun
      clear hrun
      have hz2 := hB2.below hBe2 (by omega)
      have hz3 := hB3.below hBe2 (by omega)
      have hy1 := hz3.f1
      have hy2 := hz3.c1
      go_wp2_with (at_builtin; refine wpList_append_run rfl _ _ _ rfl _ _ _ rfl rfl hR.out ?_)
      have hdig : Lm.digits N = (N - N / 4294967296 * 4294967296) :: Lm.digits (N / 4294967296) := by
        rw [Lm.digits_pos h0]
        congr 1
        omega
      refine ⟨⟨N / 4294967296, j + 1, A2, c2, t ++ [N - N / 4294967296 * 4294967296], rfl, Fl.rep_div hrN, by omega, ?_, hO2.box hz3 1 _, hz2.far (by show w.heap.size ≠ w.heap.size + 1; omega) _, hz3.set1 _, (hbl.trans (hBe2.mono (by omega))).setCell (p := ⟨w.heap.size + 1, 1, none⟩) (by show w.heap.size ≤ w.heap.size + 1; omega) _, ?_, ?_⟩, ?_⟩
      · have := hinv.out.2
        rw [hdig, List.length_cons] at this
        omega
      · have := hBe2.size
        simp
        omega
      · refine Lib.hid ⟨?_, ?_⟩
        · rw [hinv.out.1, hdig]; simp
        · have := hinv.out.2
          rw [hdig, List.length_cons] at this
          omega
      · refine Fl.val_lt_iff.1 ?_
        rw [(Fl.rep_val hrN).1, (Fl.rep_val (Fl.rep_div hrN)).1]
        exact Nat.mul_lt_mul_of_pos_right (by omega) Fl.U_pos
end Go.Proofs.Ytmcfokeibecopaa

namespace Go.Proofs.Ytmcfokeibecopaa
open Go.RowKit

namespace Fl
def C256 : Nat := 5760103923406864384
def D256 : Nat := 14983475960261640192
set_option maxRecDepth 100000 in
theorem c256_si : si C256 = ((1279 * B : Nat) : Int) := by decide
set_option maxRecDepth 100000 in
theorem d256_si : si D256 = -((1279 * B : Nat) : Int) := by decide
set_option maxRecDepth 100000 in
theorem c256_nan : nanB C256 = false := by decide
set_option maxRecDepth 100000 in
theorem d256_nan : nanB D256 = false := by decide
set_option maxRecDepth 100000 in
theorem val_top : val (1279 * B) = 2 ^ 256 * U := val_binade 1279 256 (by omega) (by rw [K_eq])
set_option maxRecDepth 100000 in
theorem flr_ge {a : Nat} (h : ((1279 * B : Nat) : Int) ≤ si a) : ((2 ^ 256 : Nat) : Int) ≤ flr a := by
  have hU := U_pos
  have hUI : (0 : Int) < (U : Int) := by omega
  have h1 : ((2 ^ 256 * U : Nat) : Int) ≤ sv a := by
    rw [← val_top]
    unfold si sgnd at h
    unfold sv sgnd
    cases hn : ng a
    · rw [hn] at h; simp only [Bool.false_eq_true, if_false] at h ⊢
      have := val_le (r := 1279 * B) (s := rg a) (by omega)
      omega
    · rw [hn] at h; simp only [if_true] at h
      have : B = 4503599627370496 := rfl
      omega
  have := Int.ediv_le_ediv hUI h1
  rw [Int.natCast_mul, Int.mul_ediv_cancel _ (by omega)] at this
  exact this
set_option maxRecDepth 100000 in
theorem flr_le {a : Nat} (h : si a ≤ -((1279 * B : Nat) : Int)) : flr a ≤ -((2 ^ 256 : Nat) : Int) := by
  have hU := U_pos
  have hUI : (0 : Int) < (U : Int) := by omega
  have h1 : sv a ≤ -((2 ^ 256 * U : Nat) : Int) := by
    rw [← val_top]
    unfold si sgnd at h
    unfold sv sgnd
    cases hn : ng a
    · rw [hn] at h; simp only [Bool.false_eq_true, if_false] at h ⊢
      have : B = 4503599627370496 := rfl
      omega
    · rw [hn] at h; simp only [if_true] at h ⊢
      have := val_le (r := 1279 * B) (s := rg a) (by omega)
      omega
  have := Int.ediv_le_ediv hUI h1
  rw [Int.natCast_mul, ← Int.neg_mul, Int.mul_ediv_cancel _ (by omega)] at this
  exact this
set_option maxRecDepth 100000 in
theorem rg_in {a : Nat} (h1 : ¬ ((1279 * B : Nat) : Int) ≤ si a) (h2 : ¬ si a ≤ -((1279 * B : Nat) : Int)) : rg a < 1279 * B := by
  unfold si sgnd at h1 h2
  cases hn : ng a
  · rw [hn] at h1; simp only [Bool.false_eq_true, if_false] at h1; omega
  · rw [hn] at h2; simp only [if_true] at h2; omega
set_option maxRecDepth 100000 in
theorem flr_in {a : Nat} (h : rg a < 1279 * B) : (flr a).natAbs < 2 ^ 256 := by
  have hK := K_eq
  have hU := U_pos
  rcases Nat.le_total 1074 (pl (rg a)) with hp | hp
  · have e1 : val (rg a) = mt (rg a) * 2 ^ (pl (rg a) - 1074) * U := by unfold val; rw [U_def, hK, split_pow _ _ _ hp]
    have e2 : (flr a).natAbs = mt (rg a) * 2 ^ (pl (rg a) - 1074) := by
      unfold flr sv
      rw [e1, sgnd_mul _ _ U, Int.mul_ediv_cancel _ (by omega), natAbs_sgnd]
    have h3 := val_lt h
    rw [val_top, e1] at h3
    rw [e2]
    exact Nat.lt_of_mul_lt_mul_right h3
  · have h1 : val (rg a) ≤ 2 * B * U := by
      unfold val
      exact Nat.mul_le_mul (Nat.le_of_lt mt_lt) (by rw [U_def]; exact Nat.pow_le_pow_right (by omega) (by omega))
    have hUI : (0 : Int) < (U : Int) := by omega
    have ha := natAbs_sgnd (ng a) (val (rg a))
    have h4 : -((2 * B * U : Nat) : Int) ≤ sv a ∧ sv a ≤ ((2 * B * U : Nat) : Int) := by unfold sv; omega
    rw [Int.natCast_mul] at h4
    have h5 : flr a ≤ ((2 * B : Nat) : Int) := by
      have := Int.ediv_le_ediv hUI h4.2
      rwa [Int.mul_ediv_cancel _ (by omega)] at this
    have h6 : -((2 * B : Nat) : Int) ≤ flr a := by
      have := Int.ediv_le_ediv hUI h4.1
      rwa [← Int.neg_mul, Int.mul_ediv_cancel _ (by omega)] at this
    have h7 : 2 * B < 2 ^ 256 := by decide
    omega
set_option maxRecDepth 100000 in
/-- The sign of a floor that is nothing's, or below. -/
theorem flr_sgn {a : Nat} : sgn (ng a) (flr a).natAbs = flr a := by
  have hU := U_pos
  have hUI : (0 : Int) < (U : Int) := by omega
  unfold sgn
  cases hn : ng a
  · have : 0 ≤ flr a := Int.ediv_nonneg (by unfold sv sgnd; rw [hn]; simp only [Bool.false_eq_true, if_false]; omega) (by omega)
    simp only [Bool.false_eq_true, if_false]; omega
  · have : flr a ≤ 0 := by
      have h1 : sv a ≤ 0 := by unfold sv sgnd; rw [hn]; simp only [if_true]; omega
      have := Int.ediv_le_ediv hUI h1
      rw [Int.zero_ediv] at this
      exact this
    simp only [if_true]; omega
end Fl

set_option maxRecDepth 100000 in
theorem flt_ge {a b : Nat} (ha : Fl.nanB a = false) (hb : Fl.nanB b = false) : (FloatKind.f64.format.order a b == some .gt || FloatKind.f64.format.order a b == some .eq) = decide (Fl.si b ≤ Fl.si a) := by
  rw [flt_gt ha hb, flt_eq ha hb, ← Bool.decide_or, decide_eq_decide]; omega
set_option maxRecDepth 100000 in
theorem flt_le {a b : Nat} (ha : Fl.nanB a = false) (hb : Fl.nanB b = false) : (FloatKind.f64.format.order a b == some .lt || FloatKind.f64.format.order a b == some .eq) = decide (Fl.si a ≤ Fl.si b) := by
  rw [flt_lt ha hb, flt_eq ha hb, ← Bool.decide_or, decide_eq_decide]; omega

/-- How an integer stands to a float. -/
noncomputable def cmpNumZ (z : Int) (b : Nat) : Int := if Fl.nanB b then -1 else if Fl.flr b < z then 1 else -1
noncomputable def cmpNumR (g : Bool) (l : List Nat) (b : Int) : Int := if mayB g l then cmpNumZ (sgn g (Lm.val l)) b.toNat else 0

set_option maxRecDepth 100000 in
theorem Lm.top_pow : Lm.top = 2 ^ 256 := by decide

set_option maxRecDepth 100000 in
set_option maxRecDepth 100000 in
set_option maxHeartbeats 2000000 in
theorem cmpNum_any (w : World) (g : Bool) (A : Option Addr) (n c : Nat) (l : List Nat) (h : Raw w A n c l) (b : Int) :
    Calls Try.prog 55 #[.agg #[.bool g, .slice A n c], .int .u64 b] w (IntPost w (cmpNumR g l b)) := by
  have c1 := call_frombits
  have hbx := Box.new w (.bool g) (.slice A n c)
  have hb0 := (Below.refl w.heap.size w).alloc (Nat.le_refl _) (.cells #[.bool g, .slice A n c] 24)
  have hR0 := h.below hb0
  generalize hW : w.alloc (.cells #[.bool g, .slice A n c] 24) = W at *
  have x0 := hbx.c0
  have x1 := hbx.c1
  cases hm : mayB g l with
  | false =>
    have fin : Hid (cmpNumR g l b = 0) := Lib.hid (by unfold cmpNumR; rw [hm]; rfl)
    go_enter Try.func55, Try.ntmps55
    go_wp2_with fail
    refine (may_b W g A n c l hR0).mono ?_
    rintro e w1 ⟨rfl, hb1⟩
    go_wp2
    go_ret
    rw [fin.out]
    exact ⟨rfl, hb0.trans (hb1.mono hb0.size)⟩
  | true =>
    have HM := Lib.hid hm
    cases hn : Fl.nanB b.toNat with
    | true =>
      have fin : Hid (cmpNumR g l b = -1) := Lib.hid (by unfold cmpNumR cmpNumZ; rw [hm, hn]; rfl)
      go_enter Try.func55, Try.ntmps55
      go_wp2_with fail
      refine (may_b W g A n c l hR0).mono ?_
      rintro e w1 ⟨rfl, hb1⟩
      go_wp2_with (go_at_call 75; refine (isNaN_any _ _).mono ?_; rintro e w' ⟨rfl, rfl⟩)
      go_ret
      rw [fin.out]
      exact ⟨rfl, hb0.trans (hb1.mono hb0.size)⟩
    | false =>
      have hz := top_of_may h.1.2.2.1 hm
      rw [Lm.top_pow] at hz
      have o1 := flt_ge hn Fl.c256_nan
      have o2 := flt_le hn Fl.d256_nan
      rw [show Fl.C256 = 5760103923406864384 from rfl] at o1
      rw [show Fl.D256 = 14983475960261640192 from rfl] at o2
      have hun : cmpNumR g l b = if Fl.flr b.toNat < sgn g (Lm.val l) then 1 else -1 := by unfold cmpNumR cmpNumZ; rw [hm, hn]; rfl
      by_cases hc : ((1279 * Fl.B : Nat) : Int) ≤ Fl.si b.toNat
      · have fin : Hid (cmpNumR g l b = -1) := Lib.hid (by
          have := Fl.flr_ge hc
          rw [hun, if_neg]
          generalize sgn g (Lm.val l) = z at *
          generalize (2 ^ 256 : Nat) = t at *
          omega)
        rw [decide_eq_true (by rw [show (5760103923406864384 : Nat) = Fl.C256 from rfl, Fl.c256_si]; exact hc)] at o1
        clear hun hc hz o2
        go_enter Try.func55, Try.ntmps55
        go_wp2_with fail
        refine (may_b W g A n c l hR0).mono ?_
        rintro e w1 ⟨rfl, hb1⟩
        go_wp2_with (go_at_call 75; refine (isNaN_any _ _).mono ?_; rintro e w' ⟨rfl, rfl⟩)
        go_ret
        rw [fin.out]
        exact ⟨rfl, hb0.trans (hb1.mono hb0.size)⟩
      · rw [decide_eq_false (by rw [show (5760103923406864384 : Nat) = Fl.C256 from rfl, Fl.c256_si]; exact hc)] at o1
        by_cases hd : Fl.si b.toNat ≤ -((1279 * Fl.B : Nat) : Int)
        · have fin : Hid (cmpNumR g l b = 1) := Lib.hid (by
            have := Fl.flr_le hd
            rw [hun, if_pos]
            generalize sgn g (Lm.val l) = z at *
            generalize (2 ^ 256 : Nat) = t at *
            omega)
          rw [decide_eq_true (by rw [show (14983475960261640192 : Nat) = Fl.D256 from rfl, Fl.d256_si]; exact hd)] at o2
          clear hun hc hz hd
          go_enter Try.func55, Try.ntmps55
          go_wp2_with fail
          refine (may_b W g A n c l hR0).mono ?_
          rintro e w1 ⟨rfl, hb1⟩
          go_wp2_with (go_at_call 75; refine (isNaN_any _ _).mono ?_; rintro e w' ⟨rfl, rfl⟩)
          go_ret
          rw [fin.out]
          exact ⟨rfl, hb0.trans (hb1.mono hb0.size)⟩
        · rw [decide_eq_false (by rw [show (14983475960261640192 : Nat) = Fl.D256 from rfl, Fl.d256_si]; exact hd)] at o2
          have hrg := Fl.rg_in hc hd
          have hfin : Fl.rg b.toNat < Fl.INF := Nat.lt_trans hrg (by decide)
          have hrep := Fl.flr_rep (Nat.le_of_lt hrg)
          have htop := Fl.flr_in hrg
          rw [← Lm.top_pow] at htop hz
          have hsg := Lib.hid (Fl.flr_sgn (a := b.toNat))
          have fin := Lib.hid hun
          clear hun hc hd hrg
          have hcmp : Hid (decide (0 < cmpZ (sgn g (Lm.val l)) (Fl.flr b.toNat)) = decide (Fl.flr b.toNat < sgn g (Lm.val l))) := Lib.hid (by
            unfold cmpZ
            rw [decide_eq_decide]
            split
            · omega
            · split <;> omega)
          by_cases hlt : Fl.flr b.toNat < sgn g (Lm.val l)
          all_goals
            first
            | rw [decide_eq_true hlt] at hcmp
            | rw [decide_eq_false hlt] at hcmp
            first
            | rw [if_pos hlt] at fin
            | rw [if_neg hlt] at fin
            clear hlt
            go_enter Try.func55, Try.ntmps55
            go_wp2_with fail
            refine (may_b W g A n c l hR0).mono ?_
            rintro e w1 ⟨rfl, hb1⟩
            go_wp2_with (go_at_call 75; refine (isNaN_any _ _).mono ?_; rintro e w' ⟨rfl, rfl⟩)
            have q0 : Box w1.drew w.heap.size (.bool g) (.slice A n c) := hbx.below' hb1.drew
            have r0 : Nm w1.drew g A n c (sgn g (Lm.val l)) := nm_of_raw (hR0.below hb1.drew) HM.out
            have y0 := (hbx.below' hb1).c0
            have y1 := (hbx.below' hb1).c1
            clear x0 x1 o1 o2 c1 hn hm hW
            go_region_held3 (fun w' => w'.cell? ⟨w.heap.size, 0, none⟩ = some (.bool g) ∧ w'.cell? ⟨w.heap.size, 1, none⟩ = some (.slice A n c))
              (first | exact ⟨y0, y1⟩ | exact ⟨q0.c0, q0.c1⟩ | exact ⟨q1.c0, q1.c1⟩ | exact ⟨q2.c0, q2.c1⟩)
              (first
                | (go_at_call 78; refine (floor_any _ _ hfin).mono ?_; rintro e w' ⟨rfl, rfl⟩)
                | (go_at_call 77; refine (whole_any _ _ _ hrep htop).mono ?_; rintro e v1 ⟨_, rfl, ⟨s1, A1, n1, c1, rfl, hs1, ho1⟩, hv1⟩; have q1 := q0.below' hv1; have r1 := r0.below hv1)
                | (go_at_call 57; refine (cmp_z _ g s1 A A1 n c n1 c1 _ _ (by exact r1) (by exact Nm.of_own hs1 ho1) hz (by rw [natAbs_sgn]; exact htop)).mono ?_; rintro e v2 ⟨rfl, hv2⟩; have q2 := q1.below' hv2))
            rw [hsg.out, hcmp.out]
            have e0 := (hb0.trans (hb1.mono hb0.size)).drew
            have e1 := e0.trans (hv1.mono e0.size)
            have e2 := e1.trans (hv2.mono e1.size)
            go_wp2
            go_ret
            rw [fin.out]
            exact ⟨rfl, e2⟩
end Go.Proofs.Ytmcfokeibecopaa
