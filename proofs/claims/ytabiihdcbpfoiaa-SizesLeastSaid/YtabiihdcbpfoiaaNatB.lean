/-
  PLAIN MATHEMATICS OF THE LOOPS OVER LIMBS: sums, differences, products. Nothing of the program stands here.
-/
import Derived.Test.YtabiihdcbpfoiaaNat
namespace Go.Proofs.Ytabiihdcbpfoiaa.Lm

set_option maxRecDepth 100000 in
theorem val_take_succ (l : List Nat) (j : Nat) : val (l.take (j + 1)) = val (l.take j) + 4294967296 ^ j * lg l j := by
  rcases Nat.lt_or_ge j l.length with h | h
  · rw [take_succ_lg h, val_append, List.length_take, Nat.min_eq_left (by omega)]
    simp [val]
  · rw [lg_out h, List.take_of_length_le (by omega), List.take_of_length_le h]
    simp

set_option maxRecDepth 100000 in
theorem lg_set {t : List Nat} {i : Nat} (h : i < t.length) (x j : Nat) : lg (t.set i x) j = if j = i then x else lg t j := by
  simp only [lg, List.getD_eq_getElem?_getD, List.getElem?_set]
  by_cases e : i = j
  · subst e; simp [h]
  · simp [e, Ne.symm e]

set_option maxRecDepth 100000 in
theorem val_take_set {t : List Nat} {i j : Nat} (h : j ≤ i) (x : Nat) : val ((t.set i x).take j) = val (t.take j) := by
  have : (t.set i x).take j = t.take j := by
    rw [List.take_set_of_le h]
  rw [this]

set_option maxRecDepth 100000 in
theorem small_set {t : List Nat} (h : Small t) (i : Nat) {x : Nat} (hx : x < 4294967296) : Small (t.set i x) := by
  intro y hy
  rcases List.mem_or_eq_of_mem_set hy with h1 | h1
  · exact h y h1
  · omega

set_option maxRecDepth 100000 in
theorem small_replicate (n : Nat) : Small (List.replicate n 0) := by
  intro x hx
  rw [List.mem_replicate] at hx
  omega

set_option maxRecDepth 100000 in
/-- One round of a sum. -/
theorem add_step {t l k : List Nat} {j c : Nat} (hj : j < t.length) (h : val (t.take j) + 4294967296 ^ j * c = val (l.take j) + val (k.take j)) :
    val ((t.set j ((c + lg l j + lg k j) % 4294967296)).take (j + 1)) + 4294967296 ^ (j + 1) * ((c + lg l j + lg k j) / 4294967296) = val (l.take (j + 1)) + val (k.take (j + 1)) := by
  rw [val_take_succ, val_take_set (Nat.le_refl _), lg_set hj, if_pos rfl, val_take_succ l, val_take_succ k, Nat.pow_succ, Nat.mul_assoc]
  have e : (c + lg l j + lg k j) % 4294967296 + 4294967296 * ((c + lg l j + lg k j) / 4294967296) = c + lg l j + lg k j := Nat.mod_add_div _ _
  have e2 : 4294967296 ^ j * ((c + lg l j + lg k j) % 4294967296) + 4294967296 ^ j * (4294967296 * ((c + lg l j + lg k j) / 4294967296)) = 4294967296 ^ j * c + 4294967296 ^ j * lg l j + 4294967296 ^ j * lg k j := by
    rw [← Nat.mul_add, e, Nat.mul_add, Nat.mul_add]
  generalize 4294967296 ^ j = P at *
  generalize P * ((c + lg l j + lg k j) % 4294967296) = u at *
  generalize P * (4294967296 * ((c + lg l j + lg k j) / 4294967296)) = v at *
  omega

set_option maxRecDepth 100000 in
/-- The last limb of a sum. -/
theorem add_end {t l k : List Nat} {c : Nat} (ht : t.length = l.length + 1) (hk : k.length ≤ l.length) (h : val (t.take l.length) + 4294967296 ^ l.length * c = val (l.take l.length) + val (k.take l.length)) :
    val (t.set l.length c) = val l + val k := by
  have e : (t.set l.length c) = (t.set l.length c).take (l.length + 1) := by rw [List.take_of_length_le (by simp; omega)]
  rw [e, val_take_succ, val_take_set (Nat.le_refl _), lg_set (by omega), if_pos rfl, h, List.take_of_length_le (Nat.le_refl _), List.take_of_length_le hk]

set_option maxRecDepth 100000 in
/-- One round of a difference. -/
theorem sub_step {t l k : List Nat} {j b x b' : Nat} (hj : j < t.length) (h : val (l.take j) + 4294967296 ^ j * b = val (t.take j) + val (k.take j)) (hx : lg l j + 4294967296 * b' = x + lg k j + b) :
    val (l.take (j + 1)) + 4294967296 ^ (j + 1) * b' = val ((t.set j x).take (j + 1)) + val (k.take (j + 1)) := by
  rw [val_take_succ (t.set j x), val_take_set (Nat.le_refl _), lg_set hj, if_pos rfl, val_take_succ l, val_take_succ k, Nat.pow_succ, Nat.mul_assoc]
  have e2 : 4294967296 ^ j * lg l j + 4294967296 ^ j * (4294967296 * b') = 4294967296 ^ j * x + 4294967296 ^ j * lg k j + 4294967296 ^ j * b := by
    rw [← Nat.mul_add, hx, Nat.mul_add, Nat.mul_add]
  generalize 4294967296 ^ j = P at *
  generalize P * (4294967296 * b') = v at *
  omega

set_option maxRecDepth 100000 in
theorem sub_end {t l k : List Nat} {b : Nat} (hs : Small t) (ht : t.length = l.length) (hk : k.length ≤ l.length) (hle : val k ≤ val l)
    (h : val (l.take l.length) + 4294967296 ^ l.length * b = val (t.take l.length) + val (k.take l.length)) : val t = val l - val k := by
  rw [List.take_of_length_le (Nat.le_refl _), List.take_of_length_le (by omega), List.take_of_length_le hk] at h
  have h1 := val_lt hs
  rw [ht] at h1
  have hb : b = 0 := by
    rcases Nat.eq_zero_or_pos b with h0 | h0
    · exact h0
    · have : 4294967296 ^ l.length * 1 ≤ 4294967296 ^ l.length * b := Nat.mul_le_mul_left _ h0
      omega
  subst hb
  simp at h
  omega

set_option maxRecDepth 100000 in
/-- One round of a product, within the inner loop. 'o': the limbs as they stood ahead of it. -/
theorem mul_step {t o k : List Nat} {i j c x : Nat} (hj : i + j < t.length) (h : val (t.take (i + j)) + 4294967296 ^ (i + j) * c = val (o.take (i + j)) + 4294967296 ^ i * (x * val (k.take j))) (ho : lg t (i + j) = lg o (i + j)) :
    val ((t.set (i + j) ((c + (x * lg k j + lg t (i + j))) % 4294967296)).take (i + (j + 1))) + 4294967296 ^ (i + (j + 1)) * ((c + (x * lg k j + lg t (i + j))) / 4294967296) =
      val (o.take (i + (j + 1))) + 4294967296 ^ i * (x * val (k.take (j + 1))) := by
  rw [← Nat.add_assoc, val_take_succ, val_take_set (Nat.le_refl _), lg_set hj, if_pos rfl, val_take_succ o, val_take_succ k, Nat.pow_succ, Nat.mul_assoc]
  have e : (c + (x * lg k j + lg t (i + j))) % 4294967296 + 4294967296 * ((c + (x * lg k j + lg t (i + j))) / 4294967296) = c + (x * lg k j + lg t (i + j)) := Nat.mod_add_div _ _
  have e2 : 4294967296 ^ (i + j) * ((c + (x * lg k j + lg t (i + j))) % 4294967296) + 4294967296 ^ (i + j) * (4294967296 * ((c + (x * lg k j + lg t (i + j))) / 4294967296)) =
      4294967296 ^ (i + j) * c + (4294967296 ^ (i + j) * (x * lg k j) + 4294967296 ^ (i + j) * lg o (i + j)) := by
    rw [← Nat.mul_add, e, ho, Nat.mul_add, Nat.mul_add]
  have e3 : 4294967296 ^ i * (x * (val (k.take j) + 4294967296 ^ j * lg k j)) = 4294967296 ^ i * (x * val (k.take j)) + 4294967296 ^ (i + j) * (x * lg k j) := by
    rw [Nat.mul_add, Nat.mul_add, Nat.pow_add]
    congr 1
    rw [Nat.mul_left_comm x, Nat.mul_assoc]
  rw [e3]
  generalize 4294967296 ^ (i + j) * ((c + (x * lg k j + lg t (i + j))) % 4294967296) = u at *
  generalize 4294967296 ^ (i + j) * (4294967296 * ((c + (x * lg k j + lg t (i + j))) / 4294967296)) = v at *
  generalize 4294967296 ^ (i + j) * (x * lg k j) = y at *
  omega

set_option maxRecDepth 100000 in
/-- What a limb of a product is made of fits into two limbs. -/
theorem mul_fits {c x y z : Nat} (hc : c < 4294967296) (hx : x < 4294967296) (hy : y < 4294967296) (hz : z < 4294967296) : c + (x * y + z) < 18446744073709551616 := by
  have h1 : x * y ≤ 4294967295 * 4294967295 := Nat.mul_le_mul (by omega) (by omega)
  omega
set_option maxRecDepth 100000 in
theorem mul_fits2 {x y : Nat} (hx : x < 4294967296) (hy : y < 4294967296) : x * y ≤ 18446744065119617025 := by
  have h1 : x * y ≤ 4294967295 * 4294967295 := Nat.mul_le_mul (by omega) (by omega)
  omega

set_option maxRecDepth 100000 in
/-- One round of a product, the outer loop. -/
theorem mul_outer {t o l k : List Nat} {i c : Nat} (hi : i + k.length < t.length)
    (h : val (t.take (i + k.length)) + 4294967296 ^ (i + k.length) * c = val (o.take (i + k.length)) + 4294967296 ^ i * (lg l i * val (k.take k.length)))
    (ho : val (o.take (i + k.length)) = val (l.take i) * val k) :
    val ((t.set (i + k.length) c).take (i + 1 + k.length)) = val (l.take (i + 1)) * val k := by
  rw [show i + 1 + k.length = i + k.length + 1 from by omega, val_take_succ, val_take_set (Nat.le_refl _), lg_set hi, if_pos rfl, h, ho, List.take_of_length_le (Nat.le_refl _), val_take_succ, Nat.add_mul, Nat.mul_assoc]

set_option maxRecDepth 100000 in
theorem cmpN_lt {a b : Nat} : Lm.cmpN a b < 0 ↔ a < b := by
  unfold cmpN
  by_cases h : a < b
  · simp [h]
  · by_cases h' : b < a <;> simp [h, h']
end Go.Proofs.Ytabiihdcbpfoiaa.Lm
