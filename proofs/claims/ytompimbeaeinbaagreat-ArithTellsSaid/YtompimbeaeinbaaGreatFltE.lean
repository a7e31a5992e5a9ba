/-
  THE STEPS OF TAKING A WHOLE FLOAT APART, LIMB BY LIMB (no Go here).
-/
import Derived.Test.YtompimbeaeinbaaGreatFltD
import Derived.Test.YtompimbeaeinbaaGreatJ5
namespace Go.Proofs.YtompimbeaeinbaaGreat
namespace Fl
open Ieee

theorem read_flip (b : Nat) : double.read (flip b) = (double.read b).opposite := by
  have h1 := flip_rg b
  have h2 := flip_ng b
  rcases Nat.lt_trichotomy (rg b) INF with h | h | h
  · rw [read_num h, read_num (a := flip b) (by rw [h1]; exact h), h1, h2]; rfl
  · rw [read_inf h, read_inf (a := flip b) (by rw [h1]; exact h), h2]; rfl
  · rw [read_nan h, read_nan (a := flip b) (by rw [h1]; exact h), h1, h2]; rfl
theorem sub_eq_add (a b : Nat) : double.sub a b = double.add a (flip b) := by
  unfold Format.sub Format.add
  rw [read_flip]

theorem cut_zero (s : Bool) (n d : Nat) : Toward.zero.cut s n d = n / 2 ^ d := by
  unfold Toward.cut
  simp only [Nat.shiftLeft_eq, Nat.one_mul, Bool.toNat_false, Nat.add_zero]
  rcases Nat.lt_or_ge (n.log2 + 2) d with h | h
  · rw [Nat.min_eq_right (by omega)]
    have h1 : n < 2 ^ (n.log2 + 1) := Nat.lt_log2_self
    have h2 : 2 ^ (n.log2 + 1) ≤ 2 ^ (n.log2 + 2) := Nat.pow_le_pow_right (by omega) (by omega)
    have h3 : 2 ^ (n.log2 + 2) ≤ 2 ^ d := Nat.pow_le_pow_right (by omega) (by omega)
    rw [Nat.div_eq_of_lt (by omega), Nat.div_eq_of_lt (by omega)]
  · rw [Nat.min_eq_left h]
/-- int(x) of a whole x. -/
theorem toInt_num {a M : Nat} (ha : rg a < INF) (hv : val (rg a) = M * U) : (double.read a).toInt .zero = some (sgnd (ng a) M) := by
  rw [read_num ha]
  simp only [Datum.toInt, Datum.integral, cut_zero, signed_eq, Nat.pow_zero, Nat.mul_one]
  congr 2
  have hK := K_eq
  unfold val at hv
  rw [Nat.shiftLeft_eq]
  rcases Nat.le_total (pl (rg a)) 1074 with h | h
  · rw [show (-1074 + ((pl (rg a) : Nat) : Int)).toNat = 0 by omega, show (-(-1074 + ((pl (rg a) : Nat) : Int))).toNat = 1074 - pl (rg a) by omega, Nat.pow_zero, Nat.mul_one]
    rw [U_def, show K = 1074 - pl (rg a) + pl (rg a) by omega, Nat.pow_add, ← Nat.mul_assoc] at hv
    have := Nat.eq_of_mul_eq_mul_right (Nat.two_pow_pos _) hv
    rw [this, Nat.mul_div_cancel _ (Nat.two_pow_pos _)]
  · rw [show (-(-1074 + ((pl (rg a) : Nat) : Int))).toNat = 0 by omega, show (-1074 + ((pl (rg a) : Nat) : Int)).toNat = pl (rg a) - 1074 by omega, Nat.pow_zero, Nat.div_one]
    rw [U_def, hK, ← split_pow _ _ _ h] at hv
    exact Nat.eq_of_mul_eq_mul_right (Nat.two_pow_pos _) hv

/-- 2^32 as a float. -/
def C32 : Nat := 4751297606875873280
theorem c32_rg : rg C32 = 1055 * B := by decide
theorem c32_ng : ng C32 = false := by decide
theorem c32_mt : mt (1055 * B) = B := by decide
theorem c32_pl : pl (1055 * B) = 1054 := by decide
theorem c32_fin : rg C32 < INF := by decide
theorem val_binade (k j : Nat) (hk : 1 ≤ k) (h : k + 51 = j + K) : val (k * B) = 2 ^ j * U := by
  have e : k * B = (k - 1) * B + B := by
    have : k - 1 + 1 = k := by omega
    conv => lhs; rw [← this, Nat.add_mul, Nat.one_mul]
  obtain ⟨a1, a2⟩ := mt_at (k - 1) B (Nat.le_refl _) (by have := B_pos; omega)
  rw [e, val, a1, a2, B_eq, U_def, ← Nat.pow_add, ← Nat.pow_add]
  exact congrArg (fun x => 2 ^ x) (by omega)
theorem c32_val : val (rg C32) = 2 ^ 32 * U := by
  rw [c32_rg]; exact val_binade 1055 32 (by omega) (by rw [K_eq])
theorem e32 : 4294967296 = 2 ^ 32 := by decide
theorem fb_add (a b : Nat) : floatBits .add .f64 a b = double.add a b := rfl
theorem fb_sub (a b : Nat) : floatBits .sub .f64 a b = double.sub a b := rfl
theorem fb_mul (a b : Nat) : floatBits .mul .f64 a b = double.mul a b := rfl
theorem fb_quo (a b : Nat) : floatBits .quo .f64 a b = double.div a b := rfl
theorem xor_ff : (false ^^ false) = false := rfl

/-- Binades below. -/
theorem val_sub {r k : Nat} (h : (k + 1) * B ≤ r) : val (r - k * B) * 2 ^ k = val r := by
  have hB := B_pos
  have h0 : (k + 1) * B = k * B + B := by rw [Nat.add_mul, Nat.one_mul]
  have e := Nat.div_add_mod r B
  have hm := Nat.mod_lt r hB
  have h1 : k + 1 ≤ r / B := (Nat.le_div_iff_mul_le hB).2 h
  have hkB : B * k = k * B := Nat.mul_comm ..
  have e1 : r - k * B = B * (r / B - k) + r % B := by
    rw [Nat.mul_sub]
    have : B * k ≤ B * (r / B) := Nat.mul_le_mul_left _ (by omega)
    omega
  have e2 : (r - k * B) / B = r / B - k := by rw [e1, Nat.mul_add_div hB, Nat.div_eq_of_lt hm, Nat.add_zero]
  have e3 : (r - k * B) % B = r % B := by rw [e1, Nat.mul_add_mod, Nat.mod_eq_of_lt hm]
  have n1 : ¬ r < B := by omega
  have n2 : ¬ r - k * B < B := by omega
  unfold val mt pl
  rw [if_neg n1, if_neg n1, if_neg n2, if_neg n2, e2, e3, Nat.mul_assoc, ← Nat.pow_add]
  congr 2; omega

theorem f64_format : FloatKind.f64.format = double := rfl
theorem Rep.fin {N : Nat} (h : Rep N) : rg (ofN N) < INF := by rw [pos_rg (ofN_lt N)]; exact (rep_val h).2
theorem Rep.val' {N : Nat} (h : Rep N) : val (rg (ofN N)) = N * U := by rw [pos_rg (ofN_lt N)]; exact (rep_val h).1
theorem Rep.sv {N : Nat} (h : Rep N) : sv (ofN N) = (N * U : Nat) := by
  unfold Fl.sv sgnd; rw [pos_ng (ofN_lt N), h.val']; rfl

/-- rest / 2^32 -/
theorem quo32 {N : Nat} (h : Rep N) (h0 : N ≠ 0) : floatBits .quo .f64 (ofN N) C32 = some (ofN N - 32 * B) := by
  rw [fb_quo, div_pow h.fin c32_fin (by rw [c32_rg, c32_mt]) 32 (by rw [c32_rg, c32_pl]), pos_ng (ofN_lt N), c32_ng, h.val']
  have h1 := ofN_pos (N := N) (by omega)
  have hB : B = 4503599627370496 := rfl
  have h2 := val_sub (r := ofN N) (k := 32) (by omega)
  rw [(rep_val h).1] at h2
  have h3 := (rep_val h).2
  rw [← h2, R_val' (by omega), xor_ff, word_false]
theorem quo32_fin {N : Nat} (h : Rep N) : rg (ofN N - 32 * B) < INF := by
  have h3 := (rep_val h).2
  have : INF < S := INF_lt_S
  rw [pos_rg (by omega)]; omega
theorem quo32_flr {N : Nat} (h : Rep N) (h0 : N ≠ 0) : flr (ofN N - 32 * B) = ((N / 4294967296 : Nat) : Int) := by
  have h3 := (rep_val h).2
  have hS : INF < S := INF_lt_S
  have hlt : ofN N - 32 * B < S := by omega
  have h1 := ofN_pos (N := N) (by omega)
  have hB : B = 4503599627370496 := rfl
  have h2 := val_sub (r := ofN N) (k := 32) (by omega)
  rw [(rep_val h).1] at h2
  unfold flr sv sgnd
  rw [pos_ng hlt, pos_rg hlt]
  simp only [Bool.false_eq_true, if_false]
  rw [← Int.natCast_ediv]
  refine congrArg (fun x : Nat => (x : Int)) ?_
  have hp := Nat.two_pow_pos 32
  rw [← Nat.mul_div_mul_right _ _ hp, h2, Nat.mul_comm U, Nat.mul_div_mul_right _ _ U_pos, e32]
theorem quo32_ng {N : Nat} (h : Rep N) : ng (ofN N - 32 * B) = false := by
  have h3 := (rep_val h).2
  have hS : INF < S := INF_lt_S
  exact pos_ng (by omega)
theorem rep_div {N : Nat} (h : Rep N) : Rep (N / 4294967296) := by
  obtain ⟨m, k, e, hm, hl⟩ := h
  have hle : N / 4294967296 ≤ N := Nat.div_le_self ..
  rcases Nat.le_total 32 k with h | h
  · refine ⟨m, k - 32, ?_, hm, Nat.lt_of_le_of_lt hle hl⟩
    rw [e, e32, ← split_pow m k 32 h, Nat.mul_div_cancel _ (Nat.two_pow_pos 32)]
  · apply rep_small
    rw [e, show 4294967296 = 2 ^ (32 - k) * 2 ^ k by rw [← Nat.pow_add, show 32 - k + k = 32 by omega, e32], Nat.mul_div_mul_right _ _ (Nat.two_pow_pos k)]
    exact Nat.le_trans (Nat.div_le_self ..) hm
theorem rep_mul {N : Nat} (h : Rep N) : Rep (N / 4294967296 * 4294967296) := by
  obtain ⟨m, k, e, hm, hl⟩ := rep_div h
  refine ⟨m, k + 32, ?_, hm, Nat.lt_of_le_of_lt (Nat.div_mul_le_self ..) h.lt⟩
  rw [e, Nat.pow_add, Nat.mul_assoc, e32]
theorem mul32a {N : Nat} (h : Rep N) : floatBits .mul .f64 (ofN N) C32 = some (double.word (ng (ofN N) ^^ ng C32) (R (val (rg (ofN N)) * 2 ^ 32) 0)) := by
  rw [fb_mul, mul_pow h.fin c32_fin c32_val]
theorem mul32b {N : Nat} (h : Rep N) : some (double.word (ng (ofN N) ^^ ng C32) (R (val (rg (ofN N)) * 2 ^ 32) 0)) = some (R (N * U * 2 ^ 32) 0) := by
  rw [pos_ng (ofN_lt N), c32_ng, h.val', xor_ff, word_false]
theorem mul32c (N : Nat) : N * U * 2 ^ 32 = N * 4294967296 * U := by rw [Nat.mul_right_comm, ← e32]
theorem ofN_def (N : Nat) : ofN N = R (N * U) 0 := by unfold ofN; rfl
theorem mul32d (N : Nat) : some (R (N * U * 2 ^ 32) 0) = some (R (N * 4294967296 * U) 0) := by rw [mul32c]
theorem mul32e (N : Nat) : some (R (N * 4294967296 * U) 0) = some (ofN (N * 4294967296)) := by rw [ofN_def]
theorem mul32 {N : Nat} (h : Rep N) : floatBits .mul .f64 (ofN N) C32 = some (ofN (N * 4294967296)) := by
  rw [mul32a h, mul32b h]
  exact (mul32d N).trans (mul32e N)
theorem flip_pos {b : Nat} (h : b < S) : ng (flip b) = true ∧ rg (flip b) = b := by
  rw [flip_ng, flip_rg, pos_ng h, pos_rg h]; exact ⟨rfl, rfl⟩
theorem sub_repa {N M : Nat} (h : Rep N) (h' : Rep M) (hle : M ≤ N) : double.add (ofN N) (flip (ofN M)) = some (double.word (if sv (ofN N) + sv (flip (ofN M)) = 0 then ng (ofN N) && ng (flip (ofN M)) else decide (sv (ofN N) + sv (flip (ofN M)) < 0)) (R (sv (ofN N) + sv (flip (ofN M))).natAbs 0)) ∧ sv (ofN N) + sv (flip (ofN M)) = (((N - M) * U : Nat) : Int) := by
  obtain ⟨f1, f2⟩ := flip_pos (ofN_lt M)
  have hfin : rg (flip (ofN M)) < INF := by rw [f2]; exact (rep_val h').2
  have hsv : sv (flip (ofN M)) = -((M * U : Nat) : Int) := by
    unfold sv sgnd; rw [f1, f2, (rep_val h').1]; rfl
  refine ⟨add_fin h.fin hfin, ?_⟩
  rw [h.sv, hsv]
  have hm : M * U ≤ N * U := Nat.mul_le_mul_right _ hle
  rw [Nat.sub_mul]; omega
theorem sub_repb {x : Int} {D : Nat} (h : x = ((D * U : Nat) : Int)) (g : Bool) (hN : g = false) (f : Bool) : some (double.word (if x = 0 then g && f else decide (x < 0)) (R x.natAbs 0)) = some (ofN D) := by
  have e2 : decide (x < 0) = false := decide_eq_false (by omega)
  have e3 : x.natAbs = D * U := by omega
  have e4 : double.word (if x = 0 then g && f else decide (x < 0)) (R x.natAbs 0) = R (D * U) 0 := by
    rw [e2, e3, hN]
    simp only [Bool.false_and, ite_self]
    exact word_false _
  exact congrArg some (e4.trans (ofN_def D).symm)
theorem sub_rep {N M : Nat} (h : Rep N) (h' : Rep M) (hle : M ≤ N) : floatBits .sub .f64 (ofN N) (ofN M) = some (ofN (N - M)) :=
  ((fb_sub _ _).trans (sub_eq_add _ _)).trans ((sub_repa h h' hle).1.trans (sub_repb (sub_repa h h' hle).2 _ (pos_ng (ofN_lt N)) _))
theorem decode_eq (b : Nat) : FloatKind.decode .f64 b = double.read b := rfl
theorem u32_min : IntKind.u32.min = 0 := rfl
theorem u32_max : IntKind.u32.max = 4294967295 := rfl
theorem conv_some {b : Nat} {z : Int} (h : (double.read b).toInt .zero = some z) (h1 : 0 ≤ z) (h2 : z ≤ 4294967295) : floatToIntVal .f64 b .u32 = some z := by
  unfold floatToIntVal
  rw [decode_eq, h]
  simp only []
  rw [if_pos ⟨by rw [u32_min]; exact h1, by rw [u32_max]; exact h2⟩]
theorem rep32 {M : Nat} (h : M < 4294967296) : Rep M := rep_small (by
  have : B = 4503599627370496 := rfl
  omega)
theorem toInt_rep {M : Nat} (h : Rep M) : (double.read (ofN M)).toInt .zero = some (M : Int) := by
  have h1 := toInt_num (a := ofN M) (M := M) h.fin h.val'
  rw [pos_ng (ofN_lt M)] at h1
  rw [h1]
  unfold sgnd
  rw [if_neg (by decide)]
theorem conv32 {M : Nat} (h : M < 4294967296) : floatToIntVal .f64 (ofN M) .u32 = some (M : Int) :=
  conv_some (toInt_rep (rep32 h)) (by omega) (by omega)

/-- A whole float between the bounds has a floor that is exact. -/
theorem flr_rep {a : Nat} (hb : rg a ≤ 1279 * B) : Rep (flr a).natAbs := by
  have hB := B_pos
  have hK := K_eq
  have hlt : (flr a).natAbs < 2 ^ T := by
    have h1 := val_le hb
    have h2 : val (1279 * B) = 2 ^ 256 * U := val_binade 1279 256 (by omega) (by rw [K_eq])
    rw [h2] at h1
    have h3 : (flr a).natAbs ≤ 2 ^ 256 := by
      have hU := U_pos
      have hUI : (0 : Int) < (U : Int) := by omega
      have ha := natAbs_sgnd (ng a) (val (rg a))
      have h4 : -((2 ^ 256 * U : Nat) : Int) ≤ sv a ∧ sv a ≤ ((2 ^ 256 * U : Nat) : Int) := by unfold sv; omega
      rw [Int.natCast_mul] at h4
      have h5 : flr a ≤ ((2 ^ 256 : Nat) : Int) := by
        have := Int.ediv_le_ediv hUI h4.2
        rwa [Int.mul_ediv_cancel _ (by omega)] at this
      have h6 : -((2 ^ 256 : Nat) : Int) ≤ flr a := by
        have := Int.ediv_le_ediv hUI h4.1
        rwa [← Int.neg_mul, Int.mul_ediv_cancel _ (by omega)] at this
      omega
    refine Nat.lt_of_le_of_lt h3 (Nat.pow_lt_pow_right (by omega) (by have := T_eq; omega))
  rcases Nat.le_total 1074 (pl (rg a)) with h | h
  · refine ⟨mt (rg a), pl (rg a) - 1074, ?_, Nat.le_of_lt mt_lt, hlt⟩
    have e1 : val (rg a) = mt (rg a) * 2 ^ (pl (rg a) - 1074) * U := by unfold val; rw [U_def, hK, split_pow _ _ _ h]
    unfold flr sv
    rw [e1, sgnd_mul _ _ U, Int.mul_ediv_cancel _ (by have := U_pos; omega), natAbs_sgnd]
  · apply rep_small
    have h1 : val (rg a) ≤ 2 * B * U := by
      unfold val
      exact Nat.mul_le_mul (Nat.le_of_lt mt_lt) (by rw [U_def]; exact Nat.pow_le_pow_right (by omega) (by omega))
    have hU := U_pos
    have hUI : (0 : Int) < (U : Int) := by omega
    have ha := natAbs_sgnd (ng a) (val (rg a))
    have h4 : -((2 * B * U : Nat) : Int) ≤ sv a ∧ sv a ≤ ((2 * B * U : Nat) : Int) := by unfold sv; omega
    rw [Int.natCast_mul] at h4
    have h5 : flr a ≤ ((2 * B : Nat) : Int) := by
      have := Int.ediv_le_ediv hUI h4.2
      rwa [Int.mul_ediv_cancel _ (by omega)] at this
    have h6 : -((2 * B : Nat) : Int) ≤ flr a := by
      have := Int.ediv_le_ediv hUI h4.1
      rwa [← Int.neg_mul, Int.mul_ediv_cancel _ (by omega)] at this
    omega
end Fl
end Go.Proofs.YtompimbeaeinbaaGreat
