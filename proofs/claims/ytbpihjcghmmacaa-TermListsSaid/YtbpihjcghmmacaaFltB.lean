/-
  FLOATS OF 64 BITS: order, sums, products, quotients, signs (no Go here).
-/
import Derived.Test.YtbpihjcghmmacaaFltA
namespace Go.Proofs.Ytbpihjcghmmacaa
namespace Fl
open Ieee

def sgnd (s : Bool) (v : Nat) : Int := if s then -(v : Int) else (v : Int)
/-- The value of a word, in units of the least float; of infinities, as if they were the next number. -/
def sv (a : Nat) : Int := sgnd (ng a) (val (rg a))
def nanB (a : Nat) : Bool := decide (INF < rg a)

theorem signed_eq (s : Bool) (m k : Nat) : signed s m k = sgnd s (m * 2 ^ k) := by
  unfold signed sgnd
  rw [Nat.shiftLeft_eq]
theorem sgnd_mul (s : Bool) (v c : Nat) : sgnd s (v * c) = sgnd s v * (c : Int) := by
  unfold sgnd
  split
  · rw [Int.natCast_mul, Int.neg_mul]
  · rw [Int.natCast_mul]
theorem natAbs_sgnd (s : Bool) (v : Nat) : (sgnd s v).natAbs = v := by
  unfold sgnd; split <;> omega

theorem int_cmp (x y : Int) : compare x y = if x < y then .lt else if x = y then .eq else .gt := by
  rfl
theorem cmp_lt {x y : Int} (h : x < y) : compare x y = .lt := by rw [int_cmp, if_pos h]
theorem cmp_eq {x y : Int} (h : x = y) : compare x y = .eq := by rw [int_cmp, if_neg (by omega), if_pos h]
theorem cmp_gt {x y : Int} (h : y < x) : compare x y = .gt := by rw [int_cmp, if_neg (by omega), if_neg (by omega)]
theorem int_cmp_mul (x y : Int) (c : Nat) (hc : 0 < c) : compare (x * (c : Int)) (y * (c : Int)) = compare x y := by
  have hc' : (0 : Int) < (c : Int) := by omega
  rw [int_cmp, int_cmp]
  have e1 : x * (c : Int) < y * (c : Int) ↔ x < y := ⟨fun h => Int.lt_of_mul_lt_mul_right h (by omega), fun h => Int.mul_lt_mul_of_pos_right h hc'⟩
  have e2 : x * (c : Int) = y * (c : Int) ↔ x = y := ⟨fun h => Int.eq_of_mul_eq_mul_right (by omega) h, fun h => by rw [h]⟩
  simp only [e1, e2]

theorem split_pow (m p q : Nat) (h : q ≤ p) : m * 2 ^ (p - q) * 2 ^ q = m * 2 ^ p := by
  rw [Nat.mul_assoc, ← Nat.pow_add, Nat.sub_add_cancel h]

theorem base_eq (p q : Nat) : min (-1074 + (p : Int)) (-1074 + (q : Int)) = -1074 + ((min p q : Nat) : Int) := by omega

theorem order_num {a b : Nat} (ha : rg a < INF) (hb : rg b < INF) : double.order a b = some (compare (sv a) (sv b)) := by
  unfold Format.order
  rw [read_num ha, read_num hb]
  simp only [Datum.order, base_eq, signed_eq]
  have h1 : (-1074 + ((pl (rg a) : Nat) : Int) - (-1074 + ((min (pl (rg a)) (pl (rg b)) : Nat) : Int))).toNat = pl (rg a) - min (pl (rg a)) (pl (rg b)) := by omega
  have h2 : (-1074 + ((pl (rg b) : Nat) : Int) - (-1074 + ((min (pl (rg a)) (pl (rg b)) : Nat) : Int))).toNat = pl (rg b) - min (pl (rg a)) (pl (rg b)) := by omega
  rw [h1, h2]
  have hp := Nat.two_pow_pos (min (pl (rg a)) (pl (rg b)))
  rw [← int_cmp_mul _ _ _ hp, ← sgnd_mul, ← sgnd_mul, split_pow _ _ _ (Nat.min_le_left ..), split_pow _ _ _ (Nat.min_le_right ..)]
  rfl

theorem order_any {a b : Nat} (ha : rg a ≤ INF) (hb : rg b ≤ INF) : double.order a b = some (compare (sv a) (sv b)) := by
  rcases Nat.lt_or_eq_of_le ha with h1 | h1
  · rcases Nat.lt_or_eq_of_le hb with h2 | h2
    · exact order_num h1 h2
    · unfold Format.order
      rw [read_num h1, read_inf h2]
      simp only [Datum.order]
      have h3 := val_lt h1
      have h4 := natAbs_sgnd (ng a) (val (rg a))
      unfold sv
      rw [h2]
      generalize sgnd (ng a) (val (rg a)) = x at *
      cases hb : ng b
      · rw [cmp_lt (by unfold sgnd; simp; omega)]; rfl
      · rw [cmp_gt (by unfold sgnd; simp; omega)]; rfl
  · rcases Nat.lt_or_eq_of_le hb with h2 | h2
    · unfold Format.order
      rw [read_inf h1, read_num h2]
      simp only [Datum.order]
      have h3 := val_lt h2
      have h4 := natAbs_sgnd (ng b) (val (rg b))
      unfold sv
      rw [h1]
      generalize sgnd (ng b) (val (rg b)) = x at *
      cases ha : ng a
      · rw [cmp_gt (by unfold sgnd; simp; omega)]; rfl
      · rw [cmp_lt (by unfold sgnd; simp; omega)]; rfl
    · unfold Format.order
      rw [read_inf h1, read_inf h2]
      simp only [Datum.order]
      have h3 : 0 < val INF := by have := val_lt (show 0 < INF by decide); omega
      unfold sv
      rw [h1, h2]
      generalize val INF = t at *
      cases hb : ng b <;> cases ha : ng a
      · rw [cmp_eq rfl]; rfl
      · rw [cmp_lt (by unfold sgnd; simp; omega)]; rfl
      · rw [cmp_gt (by unfold sgnd; simp; omega)]; rfl
      · rw [cmp_eq rfl]; rfl
theorem order_nan {a b : Nat} (h : nanB a = true ∨ nanB b = true) : double.order a b = none := by
  unfold Format.order
  rcases h with h | h
  · rw [read_nan (of_decide_eq_true h)]; rfl
  · rw [read_nan (a := b) (of_decide_eq_true h)]
    cases double.read a <;> rfl
theorem order_self (a : Nat) : (double.order a a != some .eq) = nanB a := by
  cases h : nanB a with
  | true => rw [order_nan (Or.inl h)]; rfl
  | false =>
    have : rg a ≤ INF := by unfold nanB at h; have := of_decide_eq_false h; omega
    rw [order_any this this, int_cmp, if_neg (by omega), if_pos rfl]; rfl

/-- Rungs with signs. -/
def si (a : Nat) : Int := sgnd (ng a) (rg a)
theorem sv_lt_iff (a b : Nat) : sv a < sv b ↔ si a < si b := by
  unfold sv si sgnd
  have h1 := @val_lt_iff (rg a) (rg b)
  have h2 := @val_lt_iff (rg b) (rg a)
  have h3 := @val_lt_iff 0 (rg a)
  have h4 := @val_lt_iff 0 (rg b)
  rw [val_zero] at h3 h4
  cases ng a <;> cases ng b <;> simp <;> omega

theorem word_ng {s : Bool} {r : Nat} (h : r < S) : ng (double.word s r) = s := by
  unfold ng Format.word
  rw [sw_eq]
  have hS : 0 < S := by decide
  cases s
  · simp [Nat.div_eq_of_lt h]
  · simp only [if_true]
    have : (S + r) / S = 1 := by rw [Nat.add_div_left _ hS, Nat.div_eq_of_lt h]
    rw [this]; rfl
theorem word_rg {s : Bool} {r : Nat} (h : r < S) : rg (double.word s r) = r := by
  unfold rg Format.word
  rw [sw_eq]
  cases s
  · simp [Nat.mod_eq_of_lt h]
  · simp [Nat.add_mod_left, Nat.mod_eq_of_lt h]
theorem word_eq {a : Nat} (h : a < 2 * S) : double.word (ng a) (rg a) = a := by
  unfold Format.word ng rg
  rw [sw_eq]
  have hS : 0 < S := by decide
  have h1 := Nat.div_add_mod a S
  have h2 : a / S < 2 := (Nat.div_lt_iff_lt_mul hS).2 (by omega)
  have h3 : a / S = 0 ∨ a / S = 1 := by
    clear h1
    generalize a / S = q at *
    omega
  rcases h3 with h3 | h3
  · rw [h3] at h1
    rw [h3, if_neg (by decide)]; omega
  · rw [h3] at h1
    rw [h3, if_pos (by decide)]; omega
theorem INF_lt_S : INF < S := by decide
theorem R_le (N e : Nat) : R N e ≤ INF := by unfold R; omega
theorem R_lt (N e : Nat) : R N e < S := Nat.lt_of_le_of_lt (R_le N e) INF_lt_S

/-- A word that is no NaN. -/
def Num (d : Datum) : Prop := match d with | .nan .. => False | _ => True
theorem write_num {d : Datum} (h : Num d) : nanB (double.write d) = false := by
  cases d with
  | nan => exact absurd h id
  | infinity s =>
    unfold Format.write nanB
    rw [inf_eq, word_rg INF_lt_S]
    decide
  | number s m p =>
    have : ∃ r, r ≤ INF ∧ double.nearest s m p = double.word s r := by
      unfold Format.nearest
      simp only []
      split
      · exact ⟨0, Nat.zero_le _, rfl⟩
      · refine ⟨_, ?_, rfl⟩
        rw [inf_eq]; exact Nat.min_le_right ..
    obtain ⟨r, h1, h2⟩ := this
    show nanB (double.nearest s m p) = false
    rw [h2]
    unfold nanB
    rw [word_rg (Nat.lt_of_le_of_lt h1 INF_lt_S)]
    exact decide_eq_false (by omega)
theorem sum_num {x y d : Datum} (h : x.sum y = some d) : Num d := by
  cases x <;> cases y <;> simp [Datum.sum] at h <;> first | (subst h; trivial) | (obtain ⟨_, rfl⟩ := h; trivial)
theorem product_num {x y d : Datum} (h : x.product y = some d) : Num d := by
  cases x <;> cases y <;> simp [Datum.product] at h <;> first | (subst h; trivial) | (obtain ⟨_, rfl⟩ := h; trivial)
theorem quotient_num {k : Nat} {x y d : Datum} (h : x.quotient k y = some d) : Num d := by
  cases x <;> cases y <;> simp only [Datum.quotient, reduceCtorEq, Option.some.injEq] at h
  · split at h
    · split at h
      · cases h
      · cases h; trivial
    · cases h; trivial
  · subst h; trivial
  · subst h; trivial
theorem map_write_num {o : Option Datum} {r : Nat} (hn : ∀ d, o = some d → Num d) (h : o.map double.write = some r) : nanB r = false := by
  cases o with
  | none => cases h
  | some d => cases h; exact write_num (hn d rfl)
/-- What an operation gives is no NaN, where it gives anything. -/
theorem floatBits_num {op : BinOp} {a b r : Nat} (h : floatBits op .f64 a b = some r) : nanB r = false := by
  unfold floatBits at h
  split at h
  · exact map_write_num (fun _ => sum_num) h
  · exact map_write_num (fun _ => sum_num) h
  · exact map_write_num (fun _ => product_num) h
  · exact map_write_num (fun _ => quotient_num) h
  · cases h

end Fl
end Go.Proofs.Ytbpihjcghmmacaa
