/-
  PLAIN MATHEMATICS OF LIMBS: lists of numbers below 2^32, what they come to, their digits. Nothing of the program stands here.
  PLAIN MATHEMATICS OF THE LOOPS OVER LIMBS: sums, differences, products. Nothing of the program stands here.
  LIMBS IN MEMORY: what a slice of limbs holds, and what keeps it.
  ROWS OF LIMBS THAT A CALL HAS MADE, AND NUMBERS AS VALUES.
-/
import Derived.Test.YtmcfokeibecopaaProg
import Derived.WalkKit
import Derived.WalkSpells
import Derived.Lib.Hide
import Derived.Below
import Derived.BigQuiet
import Derived.Deep.QuietTactic
import Derived.Deep.Draws
namespace Go.Proofs.Ytmcfokeibecopaa.Lm

/-- What limbs come to, the least one first. -/
def val : List Nat → Nat
  | [] => 0
  | x :: r => x + 4294967296 * val r

/-- Each limb is below 2^32. -/
def Small (l : List Nat) : Prop := ∀ x ∈ l, x < 4294967296

/-- The digits of a number, the least one first; 0 has none. -/
def digits (n : Nat) : List Nat := if h : n = 0 then [] else n % 4294967296 :: digits (n / 4294967296)
termination_by n
decreasing_by omega

/-- The last limb is not 0. -/
def Canon (l : List Nat) : Prop := 0 < l.length → l.getD (l.length - 1) 0 ≠ 0

set_option maxRecDepth 100000 in
theorem digits_zero : digits 0 = [] := by rw [digits]; simp
set_option maxRecDepth 100000 in
theorem digits_pos {n : Nat} (h : n ≠ 0) : digits n = n % 4294967296 :: digits (n / 4294967296) := by
  rw [digits]; simp [h]

set_option maxRecDepth 100000 in
theorem small_nil : Small [] := fun _ h => by simp at h
set_option maxRecDepth 100000 in
theorem small_cons {x : Nat} {l : List Nat} : Small (x :: l) ↔ x < 4294967296 ∧ Small l := by
  simp [Small]
set_option maxRecDepth 100000 in
theorem small_append {a b : List Nat} : Small (a ++ b) ↔ Small a ∧ Small b := by
  simp only [Small, List.mem_append]
  constructor
  · intro h; exact ⟨fun x hx => h x (.inl hx), fun x hx => h x (.inr hx)⟩
  · rintro ⟨h, k⟩ x (hx | hx)
    · exact h x hx
    · exact k x hx
set_option maxRecDepth 100000 in
theorem small_take {l : List Nat} (h : Small l) (k : Nat) : Small (l.take k) := fun x hx => h x (List.mem_of_mem_take hx)
set_option maxRecDepth 100000 in
theorem small_get {l : List Nat} (h : Small l) (k : Nat) (hk : k < l.length) : l[k] < 4294967296 := h _ (List.getElem_mem hk)
set_option maxRecDepth 100000 in
theorem small_getD {l : List Nat} (h : Small l) (k : Nat) : l.getD k 0 < 4294967296 := by
  rw [List.getD_eq_getElem?_getD]
  rcases Nat.lt_or_ge k l.length with hk | hk
  · rw [List.getElem?_eq_getElem hk]; exact small_get h k hk
  · rw [List.getElem?_eq_none hk]; simp

set_option maxRecDepth 100000 in
theorem val_digits (n : Nat) : val (digits n) = n := by
  induction n using Nat.strongRecOn with
  | ind n ih =>
    by_cases h : n = 0
    · subst h; rw [digits_zero]; rfl
    · rw [digits_pos h, val, ih (n / 4294967296) (by omega)]; omega

set_option maxRecDepth 100000 in
theorem small_digits (n : Nat) : Small (digits n) := by
  induction n using Nat.strongRecOn with
  | ind n ih =>
    by_cases h : n = 0
    · subst h; rw [digits_zero]; exact small_nil
    · rw [digits_pos h, small_cons]; exact ⟨by omega, ih _ (by omega)⟩

set_option maxRecDepth 100000 in
theorem digits_eq_nil {n : Nat} : digits n = [] ↔ n = 0 := by
  constructor
  · intro h; have := val_digits n; rw [h] at this; exact this.symm
  · rintro rfl; exact digits_zero

set_option maxRecDepth 100000 in
theorem canon_digits (n : Nat) : Canon (digits n) := by
  induction n using Nat.strongRecOn with
  | ind n ih =>
    by_cases h : n = 0
    · subst h; rw [digits_zero]; intro hx; simp at hx
    · rw [digits_pos h]
      intro _
      by_cases hz : n / 4294967296 = 0
      · rw [hz, digits_zero]; simp; omega
      · have hne : digits (n / 4294967296) ≠ [] := fun e => hz (digits_eq_nil.1 e)
        have hl : 0 < (digits (n / 4294967296)).length := List.length_pos_iff.2 hne
        have := ih _ (by omega) hl
        rw [List.length_cons, Nat.add_sub_cancel]
        obtain ⟨m, hm⟩ : ∃ m, (digits (n / 4294967296)).length = m + 1 := ⟨_, (Nat.succ_pred_eq_of_pos hl).symm⟩
        rw [hm] at this ⊢
        simpa using this

set_option maxRecDepth 100000 in
theorem val_append (a b : List Nat) : val (a ++ b) = val a + 4294967296 ^ a.length * val b := by
  induction a with
  | nil => simp [val]
  | cons x a ih =>
    simp only [List.cons_append, val, ih, List.length_cons, Nat.pow_succ]
    rw [Nat.mul_add, Nat.add_assoc, ← Nat.mul_assoc, Nat.mul_comm 4294967296 (4294967296 ^ a.length)]

set_option maxRecDepth 100000 in
theorem val_lt {l : List Nat} (h : Small l) : val l < 4294967296 ^ l.length := by
  induction l with
  | nil => simp [val]
  | cons x l ih =>
    rw [small_cons] at h
    have := ih h.2
    simp only [val, List.length_cons, Nat.pow_succ]
    have h1 : 4294967296 * (val l + 1) ≤ 4294967296 * 4294967296 ^ l.length := Nat.mul_le_mul_left _ this
    rw [Nat.mul_comm (4294967296 ^ l.length)]
    have := h.1
    omega

set_option maxRecDepth 100000 in
theorem canon_tail {x : Nat} {l : List Nat} (h : Canon (x :: l)) : Canon l := by
  intro hl
  have := h (by simp)
  obtain ⟨m, hm⟩ : ∃ m, l.length = m + 1 := ⟨_, (Nat.succ_pred_eq_of_pos hl).symm⟩
  rw [List.length_cons, Nat.add_sub_cancel, hm] at this
  rw [hm]
  simpa using this

set_option maxRecDepth 100000 in
theorem val_eq_zero {l : List Nat} (hc : Canon l) (h : val l = 0) : l = [] := by
  induction l with
  | nil => rfl
  | cons x l ih =>
    simp only [val] at h
    have hx : x = 0 := by omega
    have hl : val l = 0 := by omega
    have hn := ih (canon_tail hc) hl
    subst hn hx
    exact absurd rfl (hc (by simp))

set_option maxRecDepth 100000 in
theorem digits_val {l : List Nat} (hs : Small l) (hc : Canon l) : digits (val l) = l := by
  induction l with
  | nil => exact digits_zero
  | cons x l ih =>
    rw [small_cons] at hs
    have hne : val (x :: l) ≠ 0 := fun h => by have := val_eq_zero hc h; simp at this
    rw [digits_pos hne]
    have h1 : val (x :: l) % 4294967296 = x := by simp only [val]; omega
    have h2 : val (x :: l) / 4294967296 = val l := by simp only [val]; omega
    rw [h1, h2, ih hs.2 (canon_tail hc)]

set_option maxRecDepth 100000 in
/-- Limbs with a nought on top come to what they come to without. -/
theorem val_snoc_zero (l : List Nat) : val (l ++ [0]) = val l := by rw [val_append]; simp [val]

set_option maxRecDepth 100000 in
/-- The top noughts of limbs. -/
theorem digits_prefix {l : List Nat} (hs : Small l) (k : Nat) (hk : k ≤ l.length) (hz : ∀ j, k ≤ j → j < l.length → l.getD j 0 = 0) (ht : k = 0 ∨ l.getD (k - 1) 0 ≠ 0) :
    digits (val l) = l.take k := by
  have hv : val l = val (l.take k) := by
    have e : l = l.take k ++ l.drop k := (List.take_append_drop k l).symm
    have hd : val (l.drop k) = 0 := by
      have : ∀ m : List Nat, (∀ j, j < m.length → m.getD j 0 = 0) → val m = 0 := by
        intro m
        induction m with
        | nil => intro _; rfl
        | cons x m ih =>
          intro hm
          have hx := hm 0 (by simp)
          have hr := ih (fun j hj => by have := hm (j + 1) (by simp; omega); simpa using this)
          simp only [val, hr]
          simpa using hx
      refine this _ (fun j hj => ?_)
      have := hz (k + j) (by omega) (by simp at hj; omega)
      rw [List.getD_eq_getElem?_getD, List.getElem?_drop, ← List.getD_eq_getElem?_getD]
      exact this
    conv => lhs; rw [e]
    rw [val_append, hd]; simp
  rw [hv]
  refine digits_val (small_take hs k) ?_
  intro hx
  rw [List.length_take, Nat.min_eq_left hk] at hx ⊢
  have ht' : l.getD (k - 1) 0 ≠ 0 := by
    rcases ht with h | h
    · omega
    · exact h
  rw [List.getD_eq_getElem?_getD, List.getElem?_take_of_lt (by omega), ← List.getD_eq_getElem?_getD]
  exact ht'

set_option maxRecDepth 100000 in
/-- How many digits there are. -/
theorem digits_length (n k : Nat) : (digits n).length ≤ k ↔ n < 4294967296 ^ k := by
  constructor
  · intro h
    have h1 := val_lt (small_digits n)
    rw [val_digits] at h1
    exact Nat.lt_of_lt_of_le h1 (Nat.pow_le_pow_right (by decide) h)
  · induction k generalizing n with
    | zero => intro h; have : n = 0 := by simp at h; exact h
              subst this; rw [digits_zero]; simp
    | succ k ih =>
      intro h
      by_cases h0 : n = 0
      · subst h0; rw [digits_zero]; simp
      · rw [digits_pos h0]
        have := ih (n / 4294967296) (by rw [Nat.pow_succ, Nat.mul_comm] at h; exact Nat.div_lt_of_lt_mul h)
        simp; exact this

set_option maxRecDepth 100000 in
theorem digits_small_len {l : List Nat} (hs : Small l) : (digits (val l)).length ≤ l.length := (digits_length _ _).2 (val_lt hs)

set_option maxRecDepth 100000 in
/-- Two rows of limbs of one length stand as the greatest unlike limbs do. -/
theorem val_lt_of_top {a b : List Nat} (ha : Small a) (_hb : Small b) (k : Nat) (hl : a.length = b.length) (hk : k < a.length)
    (heq : ∀ j, k < j → j < a.length → a.getD j 0 = b.getD j 0) (hlt : a.getD k 0 < b.getD k 0) : val a < val b := by
  induction a generalizing b k with
  | nil => simp at hk
  | cons x a ih =>
    cases b with
    | nil => simp at hl
    | cons y b =>
      rw [small_cons] at ha
      rw [small_cons] at _hb
      simp at hl
      simp only [val]
      cases k with
      | zero =>
        have : a = b := by
          apply List.ext_getElem hl
          intro i h1 h2
          have := heq (i + 1) (by omega) (by simp; omega)
          simp [List.getD_eq_getElem?_getD, h1, h2] at this
          exact this
        subst this
        simp at hlt
        omega
      | succ k =>
        have := ih ha.2 _hb.2 k hl (by simp at hk; omega) (fun j h1 h2 => by have := heq (j + 1) (by omega) (by simp; omega); simpa using this) (by simpa using hlt)
        omega

set_option maxRecDepth 100000 in
theorem eq_of_getD {a b : List Nat} (hl : a.length = b.length) (h : ∀ j, j < a.length → a.getD j 0 = b.getD j 0) : a = b := by
  apply List.ext_getElem hl
  intro i h1 h2
  have := h i h1
  simpa [List.getD_eq_getElem?_getD, h1, h2] using this

set_option maxRecDepth 100000 in
/-- Fewer limbs are less, where the last one is not 0. -/
theorem val_lt_of_length {a b : List Nat} (ha : Small a) (hb : Small b) (hc : Canon b) (hl : a.length < b.length) : val a < val b := by
  have h1 := val_lt ha
  have h2 : ¬ val b < 4294967296 ^ a.length := fun h => by
    have := (digits_length (val b) a.length).2 h
    rw [digits_val hb hc] at this
    omega
  omega

/-- The limb at a place; 0 behind the last one. (Under a name of its own, so that no walk turns it.) -/
def lg (l : List Nat) (j : Nat) : Nat := l.getD j 0
set_option maxRecDepth 100000 in
theorem lg_def (l : List Nat) (j : Nat) : lg l j = l.getD j 0 := rfl
set_option maxRecDepth 100000 in
theorem lg_lt {l : List Nat} (h : Small l) (j : Nat) : lg l j < 4294967296 := small_getD h j
set_option maxRecDepth 100000 in
theorem lg_nil (j : Nat) : lg [] j = 0 := rfl
set_option maxRecDepth 100000 in
theorem lg_zero (x : Nat) (l : List Nat) : lg (x :: l) 0 = x := rfl
set_option maxRecDepth 100000 in
theorem lg_succ (x : Nat) (l : List Nat) (j : Nat) : lg (x :: l) (j + 1) = lg l j := by simp [lg]
set_option maxRecDepth 100000 in
theorem lg_take {l : List Nat} {k j : Nat} (h : j < k) : lg (l.take k) j = lg l j := by
  simp only [lg, List.getD_eq_getElem?_getD, List.getElem?_take_of_lt h]
set_option maxRecDepth 100000 in
theorem lg_out {l : List Nat} {j : Nat} (h : l.length ≤ j) : lg l j = 0 := by
  simp only [lg, List.getD_eq_getElem?_getD, List.getElem?_eq_none h, Option.getD_none]
set_option maxRecDepth 100000 in
theorem lg_append_left {a b : List Nat} {j : Nat} (h : j < a.length) : lg (a ++ b) j = lg a j := by
  simp only [lg, List.getD_eq_getElem?_getD, List.getElem?_append_left h]
set_option maxRecDepth 100000 in
theorem lg_append_right {a b : List Nat} {j : Nat} (h : a.length ≤ j) : lg (a ++ b) j = lg b (j - a.length) := by
  simp only [lg, List.getD_eq_getElem?_getD, List.getElem?_append_right h]
set_option maxRecDepth 100000 in
theorem take_succ_lg {l : List Nat} {k : Nat} (h : k < l.length) : l.take (k + 1) = l.take k ++ [lg l k] := by
  rw [List.take_succ_eq_append_getElem h]; simp [lg, h]
set_option maxRecDepth 100000 in
theorem eq_of_lg {a b : List Nat} (hl : a.length = b.length) (h : ∀ j, j < a.length → lg a j = lg b j) : a = b := eq_of_getD hl h

/-- How two numbers stand. -/
def cmpN (a b : Nat) : Int := if a < b then -1 else if b < a then 1 else 0

end Go.Proofs.Ytmcfokeibecopaa.Lm

namespace Go.Proofs.Ytmcfokeibecopaa.Lm

set_option maxRecDepth 100000 in
theorem val_take_succ (l : List Nat) (j : Nat) : val (l.take (j + 1)) = val (l.take j) + 4294967296 ^ j * lg l j := by
  rcases Nat.lt_or_ge j l.length with h | h
  · rw [take_succ_lg h, val_append, List.length_take, Nat.min_eq_left (by omega)]
    simp [val]
  · rw [lg_out h, List.take_of_length_le (by omega), List.take_of_length_le h]
    simp

set_option maxRecDepth 100000 in
theorem lg_set {t : List Nat} {i : Nat} (h : i < t.length) (x j : Nat) : lg (t.set i x) j = if j = i then x else lg t j := by
  simp only [lg, List.getD_eq_getElem?_getD, List.getElem?_set]
  by_cases e : i = j
  · subst e; simp [h]
  · simp [e, Ne.symm e]

set_option maxRecDepth 100000 in
theorem val_take_set {t : List Nat} {i j : Nat} (h : j ≤ i) (x : Nat) : val ((t.set i x).take j) = val (t.take j) := by
  have : (t.set i x).take j = t.take j := by
    rw [List.take_set_of_le h]
  rw [this]

set_option maxRecDepth 100000 in
theorem small_set {t : List Nat} (h : Small t) (i : Nat) {x : Nat} (hx : x < 4294967296) : Small (t.set i x) := by
  intro y hy
  rcases List.mem_or_eq_of_mem_set hy with h1 | h1
  · exact h y h1
  · omega

set_option maxRecDepth 100000 in
theorem small_replicate (n : Nat) : Small (List.replicate n 0) := by
  intro x hx
  rw [List.mem_replicate] at hx
  omega

set_option maxRecDepth 100000 in
/-- One round of a sum. -/
theorem add_step {t l k : List Nat} {j c : Nat} (hj : j < t.length) (h : val (t.take j) + 4294967296 ^ j * c = val (l.take j) + val (k.take j)) :
    val ((t.set j ((c + lg l j + lg k j) % 4294967296)).take (j + 1)) + 4294967296 ^ (j + 1) * ((c + lg l j + lg k j) / 4294967296) = val (l.take (j + 1)) + val (k.take (j + 1)) := by
  rw [val_take_succ, val_take_set (Nat.le_refl _), lg_set hj, if_pos rfl, val_take_succ l, val_take_succ k, Nat.pow_succ, Nat.mul_assoc]
  have e : (c + lg l j + lg k j) % 4294967296 + 4294967296 * ((c + lg l j + lg k j) / 4294967296) = c + lg l j + lg k j := Nat.mod_add_div _ _
  have e2 : 4294967296 ^ j * ((c + lg l j + lg k j) % 4294967296) + 4294967296 ^ j * (4294967296 * ((c + lg l j + lg k j) / 4294967296)) = 4294967296 ^ j * c + 4294967296 ^ j * lg l j + 4294967296 ^ j * lg k j := by
    rw [← Nat.mul_add, e, Nat.mul_add, Nat.mul_add]
  generalize 4294967296 ^ j = P at *
  generalize P * ((c + lg l j + lg k j) % 4294967296) = u at *
  generalize P * (4294967296 * ((c + lg l j + lg k j) / 4294967296)) = v at *
  omega

set_option maxRecDepth 100000 in
/-- The last limb of a sum. -/
theorem add_end {t l k : List Nat} {c : Nat} (ht : t.length = l.length + 1) (hk : k.length ≤ l.length) (h : val (t.take l.length) + 4294967296 ^ l.length * c = val (l.take l.length) + val (k.take l.length)) :
    val (t.set l.length c) = val l + val k := by
  have e : (t.set l.length c) = (t.set l.length c).take (l.length + 1) := by rw [List.take_of_length_le (by simp; omega)]
  rw [e, val_take_succ, val_take_set (Nat.le_refl _), lg_set (by omega), if_pos rfl, h, List.take_of_length_le (Nat.le_refl _), List.take_of_length_le hk]

set_option maxRecDepth 100000 in
/-- One round of a difference. -/
theorem sub_step {t l k : List Nat} {j b x b' : Nat} (hj : j < t.length) (h : val (l.take j) + 4294967296 ^ j * b = val (t.take j) + val (k.take j)) (hx : lg l j + 4294967296 * b' = x + lg k j + b) :
    val (l.take (j + 1)) + 4294967296 ^ (j + 1) * b' = val ((t.set j x).take (j + 1)) + val (k.take (j + 1)) := by
  rw [val_take_succ (t.set j x), val_take_set (Nat.le_refl _), lg_set hj, if_pos rfl, val_take_succ l, val_take_succ k, Nat.pow_succ, Nat.mul_assoc]
  have e2 : 4294967296 ^ j * lg l j + 4294967296 ^ j * (4294967296 * b') = 4294967296 ^ j * x + 4294967296 ^ j * lg k j + 4294967296 ^ j * b := by
    rw [← Nat.mul_add, hx, Nat.mul_add, Nat.mul_add]
  generalize 4294967296 ^ j = P at *
  generalize P * (4294967296 * b') = v at *
  omega

set_option maxRecDepth 100000 in
theorem sub_end {t l k : List Nat} {b : Nat} (hs : Small t) (ht : t.length = l.length) (hk : k.length ≤ l.length) (hle : val k ≤ val l)
    (h : val (l.take l.length) + 4294967296 ^ l.length * b = val (t.take l.length) + val (k.take l.length)) : val t = val l - val k := by
  rw [List.take_of_length_le (Nat.le_refl _), List.take_of_length_le (by omega), List.take_of_length_le hk] at h
  have h1 := val_lt hs
  rw [ht] at h1
  have hb : b = 0 := by
    rcases Nat.eq_zero_or_pos b with h0 | h0
    · exact h0
    · have : 4294967296 ^ l.length * 1 ≤ 4294967296 ^ l.length * b := Nat.mul_le_mul_left _ h0
      omega
  subst hb
  simp at h
  omega

set_option maxRecDepth 100000 in
/-- One round of a product, within the inner loop. 'o': the limbs as they stood ahead of it. -/
theorem mul_step {t o k : List Nat} {i j c x : Nat} (hj : i + j < t.length) (h : val (t.take (i + j)) + 4294967296 ^ (i + j) * c = val (o.take (i + j)) + 4294967296 ^ i * (x * val (k.take j))) (ho : lg t (i + j) = lg o (i + j)) :
    val ((t.set (i + j) ((c + (x * lg k j + lg t (i + j))) % 4294967296)).take (i + (j + 1))) + 4294967296 ^ (i + (j + 1)) * ((c + (x * lg k j + lg t (i + j))) / 4294967296) =
      val (o.take (i + (j + 1))) + 4294967296 ^ i * (x * val (k.take (j + 1))) := by
  rw [← Nat.add_assoc, val_take_succ, val_take_set (Nat.le_refl _), lg_set hj, if_pos rfl, val_take_succ o, val_take_succ k, Nat.pow_succ, Nat.mul_assoc]
  have e : (c + (x * lg k j + lg t (i + j))) % 4294967296 + 4294967296 * ((c + (x * lg k j + lg t (i + j))) / 4294967296) = c + (x * lg k j + lg t (i + j)) := Nat.mod_add_div _ _
  have e2 : 4294967296 ^ (i + j) * ((c + (x * lg k j + lg t (i + j))) % 4294967296) + 4294967296 ^ (i + j) * (4294967296 * ((c + (x * lg k j + lg t (i + j))) / 4294967296)) =
      4294967296 ^ (i + j) * c + (4294967296 ^ (i + j) * (x * lg k j) + 4294967296 ^ (i + j) * lg o (i + j)) := by
    rw [← Nat.mul_add, e, ho, Nat.mul_add, Nat.mul_add]
  have e3 : 4294967296 ^ i * (x * (val (k.take j) + 4294967296 ^ j * lg k j)) = 4294967296 ^ i * (x * val (k.take j)) + 4294967296 ^ (i + j) * (x * lg k j) := by
    rw [Nat.mul_add, Nat.mul_add, Nat.pow_add]
    congr 1
    rw [Nat.mul_left_comm x, Nat.mul_assoc]
  rw [e3]
  generalize 4294967296 ^ (i + j) * ((c + (x * lg k j + lg t (i + j))) % 4294967296) = u at *
  generalize 4294967296 ^ (i + j) * (4294967296 * ((c + (x * lg k j + lg t (i + j))) / 4294967296)) = v at *
  generalize 4294967296 ^ (i + j) * (x * lg k j) = y at *
  omega

set_option maxRecDepth 100000 in
/-- What a limb of a product is made of fits into two limbs. -/
theorem mul_fits {c x y z : Nat} (hc : c < 4294967296) (hx : x < 4294967296) (hy : y < 4294967296) (hz : z < 4294967296) : c + (x * y + z) < 18446744073709551616 := by
  have h1 : x * y ≤ 4294967295 * 4294967295 := Nat.mul_le_mul (by omega) (by omega)
  omega
set_option maxRecDepth 100000 in
theorem mul_fits2 {x y : Nat} (hx : x < 4294967296) (hy : y < 4294967296) : x * y ≤ 18446744065119617025 := by
  have h1 : x * y ≤ 4294967295 * 4294967295 := Nat.mul_le_mul (by omega) (by omega)
  omega

set_option maxRecDepth 100000 in
/-- One round of a product, the outer loop. -/
theorem mul_outer {t o l k : List Nat} {i c : Nat} (hi : i + k.length < t.length)
    (h : val (t.take (i + k.length)) + 4294967296 ^ (i + k.length) * c = val (o.take (i + k.length)) + 4294967296 ^ i * (lg l i * val (k.take k.length)))
    (ho : val (o.take (i + k.length)) = val (l.take i) * val k) :
    val ((t.set (i + k.length) c).take (i + 1 + k.length)) = val (l.take (i + 1)) * val k := by
  rw [show i + 1 + k.length = i + k.length + 1 from by omega, val_take_succ, val_take_set (Nat.le_refl _), lg_set hi, if_pos rfl, h, ho, List.take_of_length_le (Nat.le_refl _), val_take_succ, Nat.add_mul, Nat.mul_assoc]

set_option maxRecDepth 100000 in
theorem cmpN_lt {a b : Nat} : Lm.cmpN a b < 0 ↔ a < b := by
  unfold cmpN
  by_cases h : a < b
  · simp [h]
  · by_cases h' : b < a <;> simp [h, h']
end Go.Proofs.Ytmcfokeibecopaa.Lm

namespace Go.Proofs.Ytmcfokeibecopaa
open Go.RowKit

/-- The slice 'A, n, c' holds the limbs l. -/
def Lim (w : World) (A : Option Addr) (n c : Nat) (l : List Nat) : Prop :=
  l.length = n ∧ n ≤ c ∧ Lm.Small l ∧ (0 < n → ∃ b o, A = some ⟨b, o, none⟩ ∧ b < w.heap.size ∧ ∀ j, j < n → w.cell? ⟨b, o + j, none⟩ = some (.int .u32 (Lm.lg l j : Nat)))

set_option maxRecDepth 100000 in
theorem Lim.below {w w' : World} {A : Option Addr} {n c : Nat} {l : List Nat} (h : Lim w A n c l) (hb : Below w.heap.size w w') : Lim w' A n c l := by
  refine ⟨h.1, h.2.1, h.2.2.1, fun hn => ?_⟩
  obtain ⟨b, o, e, hlt, hc⟩ := h.2.2.2 hn
  exact ⟨b, o, e, Nat.lt_of_lt_of_le hlt hb.size, fun j hj => (hb.cell (p := ⟨b, o + j, none⟩) hlt).trans (hc j hj)⟩
set_option maxRecDepth 100000 in
theorem Lim.alloc {w : World} {A : Option Addr} {n c : Nat} {l : List Nat} (h : Lim w A n c l) (o : Obj) : Lim (w.alloc o) A n c l :=
  h.below ((Below.refl _ _).alloc (Nat.le_refl _) o)
set_option maxRecDepth 100000 in
theorem Lim.nil (w : World) (A : Option Addr) (c : Nat) : Lim w A 0 c [] := ⟨rfl, Nat.zero_le _, Lm.small_nil, fun h => absurd h (by omega)⟩
set_option maxRecDepth 100000 in
theorem Lim.take {w : World} {A : Option Addr} {n c : Nat} {l : List Nat} (h : Lim w A n c l) (k : Nat) (hk : k ≤ n) : Lim w A k c (l.take k) := by
  refine ⟨by rw [List.length_take, h.1]; omega, Nat.le_trans hk h.2.1, Lm.small_take h.2.2.1 k, fun hn => ?_⟩
  obtain ⟨b, o, e, hlt, hc⟩ := h.2.2.2 (by omega)
  refine ⟨b, o, e, hlt, fun j hj => ?_⟩
  rw [hc j (by omega), Lm.lg_take hj]

set_option maxRecDepth 100000 in
theorem Lim.drewN {w : World} {A : Option Addr} {n c : Nat} {l : List Nat} (h : Lim w A n c l) (q : Nat) : Lim (w.drewN q) A n c l := h
set_option maxRecDepth 100000 in
theorem _root_.Go.RowKit.Below.drewN' {B : Nat} {a w : World} (h : Below B a w) (n : Nat) : Below B a (w.drewN n) := ⟨h.os, h.tape, h.output, h.size, h.block⟩

set_option maxRecDepth 100000 in
theorem und_limbs : Try.prog.underlying 22 = some (.slice 60) := by kernel_rfl
set_option maxRecDepth 100000 in
theorem info_limb : (Try.prog.info? 60).map (fun i => (i.zero, i.size, i.bytes)) = some (some (.int .u32 0), 1, 4) := by kernel_rfl
set_option maxRecDepth 100000 in
theorem info_limb' : ∃ i, Try.prog.info? 60 = some i ∧ i.zero = some (.int .u32 0) ∧ i.size = 1 ∧ i.bytes = 4 := by
  have h := info_limb
  cases hi : Try.prog.info? 60 with
  | none => rw [hi] at h; simp at h
  | some i => rw [hi] at h; simp at h; exact ⟨i, rfl, h.1, h.2.1, h.2.2⟩

/-- Limbs as cells. -/
def arr (t : List Nat) : Array Value := (t.map fun x : Nat => Value.int .u32 (x : Int)).toArray
set_option maxRecDepth 100000 in
theorem arr_size (t : List Nat) : (arr t).size = t.length := by simp [arr]
set_option maxRecDepth 100000 in
theorem arr_get {t : List Nat} {i : Nat} (h : i < t.length) : (arr t)[i]? = some (.int .u32 (Lm.lg t i : Nat)) := by
  simp [arr, Lm.lg, h]
set_option maxRecDepth 100000 in
theorem arr_set (t : List Nat) (i x : Nat) : (arr t).setIfInBounds i (.int .u32 (x : Int)) = arr (t.set i x) := by
  simp [arr, List.map_set]
set_option maxRecDepth 100000 in
theorem arr_made (n : Nat) : madeCells (Value.int .u32 0).cells (n * 1) = arr (List.replicate n 0) := by
  apply Array.ext
  · simp [size_madeCells, arr]
  · intro i h1 h2
    simp [madeCells, arr, Value.cells, Nat.mod_one]

set_option maxRecDepth 100000 in
theorem make_limbs (n : Nat) (hn : n ≤ 100000) (w : World) :
    (Instr.makeSlice 22 (.int .i64 (n : Int)) (.int .i64 (n : Int))).run Try.prog w = .ok (.slice (some ⟨w.heap.size, 0, none⟩) n n) (w.alloc (.cells (arr (List.replicate n 0)) 60)) := by
  obtain ⟨i, hi, hz, hs, hb⟩ := info_limb'
  have h := run_make (P := Try.prog) w 22 60 i (.int .u32 0) und_limbs hi hz .i64 .i64 n n (by omega) (by omega) (by rw [hb]; omega) (by omega)
  rw [hs] at h
  simp only [Int.toNat_natCast] at h
  rw [h, arr_made]

set_option maxRecDepth 100000 in
/-- A new row of limbs. -/
theorem Lim.new (w : World) (t : List Nat) (hs : Lm.Small t) : Lim (w.alloc (.cells (arr t) 60)) (some ⟨w.heap.size, 0, none⟩) t.length t.length t := by
  refine ⟨rfl, Nat.le_refl _, hs, fun _ => ⟨w.heap.size, 0, rfl, by simp, fun j hj => ?_⟩⟩
  rw [World.cell?_alloc_at _ _ _ _ rfl, Nat.zero_add, arr_get hj]

end Go.Proofs.Ytmcfokeibecopaa

namespace Go.Proofs.Ytmcfokeibecopaa
open Go.RowKit

set_option maxRecDepth 100000 in
set_option maxHeartbeats 400000 in
theorem trimmed_any (w : World) (A : Option Addr) (n c : Nat) (l : List Nat) (h : Lim w A n c l) (hn : c ≤ maxLen) :
    Calls Try.prog 47 #[.slice A n c] w fun e w' => e = .returned (.slice A (Lm.digits (Lm.val l)).length c) ∧ w = w' := by
  unfold maxLen at hn
  have hnc := h.2.1
  have hsm := h.2.2.1
  have hll := Lib.hid h.1
  go_enter Try.func47, Try.ntmps47
  go_wp2
  go_loop [3] (fun i => ∃ k : Nat, k ≤ n ∧ i = .int .i64 k ∧ Hid (∀ j, k ≤ j → j < l.length → l.getD j 0 = 0)) (fun i => (intOf i).toNat)
  case atStart => exact ⟨n, Nat.le_refl _, rfl, fun j h1 h2 => by have := hll.out; omega⟩
  case round =>
    obtain ⟨k, hk, rfl, hz⟩ := hrel
    by_cases h0 : k = 0
    · subst h0
      have fin := Lib.hid (Lm.digits_prefix hsm 0 (by omega) hz.out (.inl rfl))
      go_wp2
      go_ret
      rw [fin.out]
      exact ⟨by simp, rfl⟩
    · obtain ⟨b, o, rfl, hlt, hcell⟩ := h.2.2.2 (by omega)
      have hg := hcell (k - 1) (by omega)
      have hpos : (0 : Int) < (k : Int) := by omega
      have hh := Lib.hid hcell
      clear hcell
      by_cases hx : Lm.lg l (k - 1) = 0
      · rw [hx] at hg
        have hX := Lib.hid hx
        clear hx
        go_wp2
        go_round
        case rel => exact ⟨k - 1, by omega, by go_num, fun j h1 h2 => by
          by_cases e : j = k - 1
          · rw [e]; exact hX.out
          · exact hz.out j (by omega) h2⟩
        case measure => simp [intOf]; omega
      · have hx' : (((Lm.lg l (k - 1) : Nat) : Int) == 0) = false := by rw [beq_eq_false_iff_ne]; omega
        have fin := Lib.hid (Lm.digits_prefix hsm k (by rw [hll.out]; exact hk) hz.out (.inr hx))
        go_wp2
        go_ret
        rw [fin.out]
        exact ⟨by rw [List.length_take, hll.out, Nat.min_eq_left hk]; rfl, rfl⟩

/-- num.May, of any limbs. -/
def mayB (n : Bool) (l : List Nat) : Bool := if l.length = 0 then !n else decide (l.length ≤ 8) && decide (Lm.lg l (l.length - 1) ≠ 0)

set_option maxRecDepth 100000 in
set_option maxHeartbeats 400000 in
theorem may_any (w : World) (g : Bool) (A : Option Addr) (n c : Nat) (l : List Nat) (h : Lim w A n c l) (_hn : c ≤ maxLen) :
    Calls Try.prog 44 #[.agg #[.bool g, .slice A n c]] w fun e w' => e = .returned (.bool (mayB g l)) ∧ w' = w.alloc (.cells #[.bool g, .slice A n c] 24) := by
  unfold maxLen at _hn
  have hnc := h.2.1
  have hll := Lib.hid h.1
  by_cases h0 : n = 0
  · subst h0
    have fin : Hid (mayB g l = !g) := by unfold mayB; rw [if_pos hll.out]; rfl
    go_enter Try.func44, Try.ntmps44
    go_wp2
    go_ret
    rw [fin.out]
    exact ⟨rfl, rfl⟩
  · have hne : (((n : Nat) : Int) == 0) = false := by rw [beq_eq_false_iff_ne]; omega
    obtain ⟨b, o, rfl, hlt, hcell⟩ := h.2.2.2 (by omega)
    have hg := hcell (n - 1) (by omega)
    clear hcell
    by_cases h8 : n ≤ 8
    · by_cases hx : Lm.lg l (n - 1) = 0
      · have fin := Lib.hid (show mayB g l = false by unfold mayB; rw [hll.out, if_neg h0]; simp [hx])
        rw [hx] at hg
        have hX := Lib.hid hx
        clear hx
        go_enter Try.func44, Try.ntmps44
        go_wp2
        go_ret
        rw [fin.out]
        exact ⟨rfl, rfl⟩
      · have fin := Lib.hid (show mayB g l = true by unfold mayB; rw [hll.out, if_neg h0]; simp [hx, h8])
        have hx' : (((Lm.lg l (n - 1) : Nat) : Int) != 0) = true := by rw [bne_iff_ne]; omega
        go_enter Try.func44, Try.ntmps44
        go_wp2
        go_ret
        rw [fin.out]
        exact ⟨rfl, rfl⟩
    · have fin := Lib.hid (show mayB g l = false by unfold mayB; rw [hll.out, if_neg h0]; simp [h8])
      go_enter Try.func44, Try.ntmps44
      go_wp2
      go_ret
      rw [fin.out]
      exact ⟨rfl, rfl⟩

set_option maxRecDepth 100000 in
theorem nan_int (x : Int) (w : World) : Calls Try.prog 53 #[.int .i64 x] w fun e w' => e = .returned (.bool false) ∧ w = w' := by
  go_enter Try.func53, Try.ntmps53
  go_wp2
  go_ret
  exact ⟨rfl, rfl⟩
set_option maxRecDepth 100000 in
theorem nan_u32 (x : Int) (w : World) : Calls Try.prog 98 #[.int .u32 x] w fun e w' => e = .returned (.bool false) ∧ w = w' := by
  go_enter Try.func98, Try.ntmps98
  go_wp2
  go_ret
  exact ⟨rfl, rfl⟩

set_option maxRecDepth 100000 in
theorem compare_int (x y : Nat) (w : World) : Calls Try.prog 33 #[.int .i64 x, .int .i64 y] w fun e w' => e = .returned (.int .i64 (Lm.cmpN x y)) ∧ w = w' := by
  rcases Nat.lt_trichotomy x y with h | h | h
  · have fin : Hid (Lm.cmpN x y = -1) := by unfold Lm.cmpN; rw [if_pos h]; rfl
    go_enter Try.func33, Try.ntmps33
    go_wp2_with (go_at_call 53; refine (nan_int _ _).mono ?_; rintro e w' ⟨rfl, rfl⟩)
    go_ret
    rw [fin.out]; exact ⟨rfl, rfl⟩
  · subst h
    have fin : Hid (Lm.cmpN x x = 0) := by unfold Lm.cmpN; rw [if_neg (by omega), if_neg (by omega)]; rfl
    go_enter Try.func33, Try.ntmps33
    go_wp2_with (go_at_call 53; refine (nan_int _ _).mono ?_; rintro e w' ⟨rfl, rfl⟩)
    go_ret
    rw [fin.out]; exact ⟨rfl, rfl⟩
  · have fin : Hid (Lm.cmpN x y = 1) := by unfold Lm.cmpN; rw [if_neg (by omega), if_pos h]; rfl
    go_enter Try.func33, Try.ntmps33
    go_wp2_with (go_at_call 53; refine (nan_int _ _).mono ?_; rintro e w' ⟨rfl, rfl⟩)
    go_ret
    rw [fin.out]; exact ⟨rfl, rfl⟩

set_option maxRecDepth 100000 in
theorem compare_u32 (x y : Nat) (w : World) : Calls Try.prog 92 #[.int .u32 x, .int .u32 y] w fun e w' => e = .returned (.int .i64 (Lm.cmpN x y)) ∧ w = w' := by
  rcases Nat.lt_trichotomy x y with h | h | h
  · have fin : Hid (Lm.cmpN x y = -1) := by unfold Lm.cmpN; rw [if_pos h]; rfl
    go_enter Try.func92, Try.ntmps92
    go_wp2_with (go_at_call 98; refine (nan_u32 _ _).mono ?_; rintro e w' ⟨rfl, rfl⟩)
    go_ret
    rw [fin.out]; exact ⟨rfl, rfl⟩
  · subst h
    have fin : Hid (Lm.cmpN x x = 0) := by unfold Lm.cmpN; rw [if_neg (by omega), if_neg (by omega)]; rfl
    go_enter Try.func92, Try.ntmps92
    go_wp2_with (go_at_call 98; refine (nan_u32 _ _).mono ?_; rintro e w' ⟨rfl, rfl⟩)
    go_ret
    rw [fin.out]; exact ⟨rfl, rfl⟩
  · have fin : Hid (Lm.cmpN x y = 1) := by unfold Lm.cmpN; rw [if_neg (by omega), if_pos h]; rfl
    go_enter Try.func92, Try.ntmps92
    go_wp2_with (go_at_call 98; refine (nan_u32 _ _).mono ?_; rintro e w' ⟨rfl, rfl⟩)
    go_ret
    rw [fin.out]; exact ⟨rfl, rfl⟩

end Go.Proofs.Ytmcfokeibecopaa

namespace Go.Proofs.Ytmcfokeibecopaa
open Go.RowKit

set_option maxRecDepth 100000 in
theorem cmp_top {a b : List Nat} (ha : Lm.Small a) (hb : Lm.Small b) (k : Nat) (hl : a.length = b.length) (hk : k < a.length)
    (heq : ∀ j, k < j → j < a.length → Lm.lg a j = Lm.lg b j) (hne : Lm.lg a k ≠ Lm.lg b k) : Lm.cmpN (Lm.val a) (Lm.val b) = Lm.cmpN (Lm.lg a k) (Lm.lg b k) := by
  rcases Nat.lt_or_ge (Lm.lg a k) (Lm.lg b k) with h | h
  · have := Lm.val_lt_of_top ha hb k hl hk heq h
    unfold Lm.cmpN; rw [if_pos this, if_pos h]
  · have h : Lm.lg b k < Lm.lg a k := by omega
    have := Lm.val_lt_of_top hb ha k hl.symm (by omega) (fun j h1 h2 => (heq j h1 (by omega)).symm) h
    unfold Lm.cmpN; rw [if_neg (by omega), if_pos this, if_neg (by omega), if_pos h]
set_option maxRecDepth 100000 in
theorem cmp_len {a b : List Nat} (ha : Lm.Small a) (hb : Lm.Small b) (hca : Lm.Canon a) (hcb : Lm.Canon b) (hne : a.length ≠ b.length) :
    Lm.cmpN (Lm.val a) (Lm.val b) = Lm.cmpN a.length b.length := by
  rcases Nat.lt_or_ge a.length b.length with h | h
  · have := Lm.val_lt_of_length ha hb hcb h
    unfold Lm.cmpN; rw [if_pos this, if_pos h]
  · have h : b.length < a.length := by omega
    have := Lm.val_lt_of_length hb ha hca h
    unfold Lm.cmpN; rw [if_neg (by omega), if_pos this, if_neg (by omega), if_pos h]

set_option maxRecDepth 100000 in
set_option maxHeartbeats 800000 in
theorem compareLimbs_any (w : World) (A B : Option Addr) (n c m d : Nat) (l k : List Nat) (h : Lim w A n c l) (hn : c ≤ maxLen) (h' : Lim w B m d k) (_hm : d ≤ maxLen) (hcl : Lm.Canon l) (hck : Lm.Canon k) :
    Calls Try.prog 79 #[.slice A n c, .slice B m d] w fun e w' => e = .returned (.int .i64 (Lm.cmpN (Lm.val l) (Lm.val k))) ∧ ∃ q, w' = w.drewN q := by
  unfold maxLen at hn _hm
  have hnc := h.2.1
  have hmd := h'.2.1
  have hll := Lib.hid h.1
  have hkk := Lib.hid h'.1
  by_cases hnm : n = m
  · subst hnm
    go_enter Try.func79, Try.ntmps79
    go_wp2
    go_loopw [5] (fun i w' => ∃ j : Nat, j ≤ n ∧ i = .int .i64 ((j : Int) - 1) ∧ (∃ q, w' = w.drewN q) ∧ Hid (∀ t, j ≤ t → t < n → Lm.lg l t = Lm.lg k t)) (fun i _ => (intOf i + 1).toNat)
    case atStart => exact ⟨n, Nat.le_refl _, rfl, ⟨0, rfl⟩, fun t h1 h2 => by omega⟩
    case round =>
      obtain ⟨j, hj, rfl, ⟨q, rfl⟩, hz⟩ := hrel
      by_cases h0 : j = 0
      · subst h0
        have e := Lm.eq_of_lg (hll.out.trans hkk.out.symm) (fun t ht => hz.out t (by omega) (by rw [← hll.out]; exact ht))
        have fin := Lib.hid (show Lm.cmpN (Lm.val l) (Lm.val k) = 0 by rw [e]; unfold Lm.cmpN; simp)
        clear e
        go_wp2
        go_ret
        rw [fin.out]
        exact ⟨rfl, q, rfl⟩
      · obtain ⟨b, o, rfl, hlt, hcell⟩ := h.2.2.2 (by omega)
        obtain ⟨b', o', rfl, hlt', hcell'⟩ := h'.2.2.2 (by omega)
        have hg := hcell (j - 1) (by omega)
        have hg' := hcell' (j - 1) (by omega)
        have hpos : (0 : Int) ≤ (j : Int) - 1 := by omega
        have hpos1 : (1 : Int) ≤ (j : Int) := by omega
        have hpos2 : (j : Int) - 1 < (n : Int) := by omega
        clear hcell hcell'
        by_cases hx : Lm.lg l (j - 1) = Lm.lg k (j - 1)
        · rw [← hx] at hg'
          have hX := Lib.hid hx
          clear hx
          go_wp2
          go_quiet (fail)
          go_wp2
          go_roundw
          case rel => exact ⟨j - 1, by omega, by go_num, ⟨_, rfl⟩, fun t h1 h2 => by
            by_cases e : t = j - 1
            · rw [e]; exact hX.out
            · exact hz.out t (by omega) h2⟩
          case measure => simp [intOf]; omega
        · have hne : ((((Lm.lg l (j - 1) : Nat) : Int) != ((Lm.lg k (j - 1) : Nat) : Int))) = true := by rw [bne_iff_ne]; omega
          have fin := Lib.hid (cmp_top h.2.2.1 h'.2.2.1 (j - 1) (hll.out.trans hkk.out.symm) (by have := hll.out; omega) (fun t h1 h2 => hz.out t (by omega) (by have := hll.out; omega)) hx)
          go_wp2
          go_quiet (fail)
          go_wp2
          generalize hw2 : (w.drewN q).drewN nq = w2
          have hg2 : w2.cell? ⟨b, o + (j - 1), none⟩ = some (.int .u32 (Lm.lg l (j - 1) : Nat)) := by rw [← hw2]; exact hg
          have hg2' : w2.cell? ⟨b', o' + (j - 1), none⟩ = some (.int .u32 (Lm.lg k (j - 1) : Nat)) := by rw [← hw2]; exact hg'
          have hW2 := Lib.hid hw2
          clear hw2
          go_quiet ((go_at_call 92; exact Calls.quiet_of_same ((compare_u32 _ _ _).mono fun _ _ h => ⟨h.1, h.2.symm⟩)))
          go_wp2
          go_ret
          rw [fin.out]
          exact ⟨rfl, _, by rw [← hW2.out, World.drewN_drewN, World.drewN_drewN]⟩
  · have hne : (((n : Nat) : Int) != ((m : Nat) : Int)) = true := by rw [bne_iff_ne]; omega
    have fin := Lib.hid (cmp_len h.2.2.1 h'.2.2.1 hcl hck (by rw [hll.out, hkk.out]; exact hnm))
    go_enter Try.func79, Try.ntmps79
    go_wp2_with (go_at_call 33; refine (compare_int _ _ _).mono ?_; rintro e w' ⟨rfl, rfl⟩)
    go_ret
    rw [fin.out]
    exact ⟨by rw [hll.out, hkk.out]; rfl, 0, rfl⟩

end Go.Proofs.Ytmcfokeibecopaa

namespace Go.Proofs.Ytmcfokeibecopaa
open Go.RowKit

set_option maxRecDepth 100000 in
set_option maxHeartbeats 800000 in
theorem sameLimbs_any (w : World) (A B : Option Addr) (n c m d : Nat) (l k : List Nat) (h : Lim w A n c l) (hn : c ≤ maxLen) (h' : Lim w B m d k) (_hm : d ≤ maxLen) :
    Calls Try.prog 67 #[.slice A n c, .slice B m d] w fun e w' => e = .returned (.bool (decide (l = k))) ∧ ∃ q, w' = w.drewN q := by
  unfold maxLen at hn _hm
  have hnc := h.2.1
  have hmd := h'.2.1
  have hll := Lib.hid h.1
  have hkk := Lib.hid h'.1
  by_cases hnm : n = m
  · subst hnm
    go_enter Try.func67, Try.ntmps67
    go_wp2
    go_loopw [5] (fun i w' => ∃ j : Nat, j ≤ n ∧ i = .int .i64 (j : Int) ∧ (∃ q, w' = w.drewN q) ∧ Hid (∀ t, t < j → Lm.lg l t = Lm.lg k t)) (fun i _ => n - (intOf i).toNat)
    case atStart => exact ⟨0, Nat.zero_le _, rfl, ⟨0, rfl⟩, fun t h1 => by omega⟩
    case round =>
      obtain ⟨j, hj, rfl, ⟨q, rfl⟩, hz⟩ := hrel
      by_cases h0 : j < n
      · obtain ⟨b, o, rfl, hlt, hcell⟩ := h.2.2.2 (by omega)
        obtain ⟨b', o', rfl, hlt', hcell'⟩ := h'.2.2.2 (by omega)
        have hg := hcell j h0
        have hg' := hcell' j h0
        have hpos2 : (j : Int) < (n : Int) := by omega
        clear hcell hcell'
        by_cases hx : Lm.lg l j = Lm.lg k j
        · rw [← hx] at hg'
          have hX := Lib.hid hx
          clear hx
          go_wp2
          go_quiet (fail)
          go_wp2
          go_roundw
          case rel => exact ⟨j + 1, by omega, by go_num, ⟨_, rfl⟩, fun t h1 => by
            by_cases e : t = j
            · rw [e]; exact hX.out
            · exact hz.out t (by omega)⟩
          case measure => simp [intOf]; omega
        · have hne : ((((Lm.lg l j : Nat) : Int) != ((Lm.lg k j : Nat) : Int))) = true := by rw [bne_iff_ne]; omega
          have fin := Lib.hid (show decide (l = k) = false by rw [decide_eq_false_iff_not]; rintro rfl; exact hx rfl)
          go_wp2
          go_quiet (fail)
          go_wp2
          go_ret
          rw [fin.out]
          exact ⟨rfl, _, by rw [World.drewN_drewN]⟩
      · have e := Lm.eq_of_lg (hll.out.trans hkk.out.symm) (fun t ht => hz.out t (by have := hll.out; omega))
        have fin := Lib.hid (show decide (l = k) = true by rw [decide_eq_true_iff]; exact e)
        clear e
        go_wp2
        go_ret
        rw [fin.out]
        exact ⟨rfl, q, rfl⟩
  · have hne : (((n : Nat) : Int) != ((m : Nat) : Int)) = true := by rw [bne_iff_ne]; omega
    have fin := Lib.hid (show decide (l = k) = false by rw [decide_eq_false_iff_not]; rintro rfl; exact hnm (by rw [← hll.out, ← hkk.out]))
    go_enter Try.func67, Try.ntmps67
    go_wp2
    go_ret
    rw [fin.out]
    exact ⟨rfl, 0, rfl⟩

/-- Two numbers as they stand. -/
def sameB (g g' : Bool) (l k : List Nat) : Bool := (g == g') && decide (l = k)

set_option maxRecDepth 100000 in
set_option maxHeartbeats 800000 in
theorem sameNum_any (w : World) (g g' : Bool) (A B : Option Addr) (n c m d : Nat) (l k : List Nat) (h : Lim w A n c l) (hn : c ≤ maxLen) (h' : Lim w B m d k) (hm : d ≤ maxLen) :
    Calls Try.prog 42 #[.agg #[.bool g, .slice A n c], .agg #[.bool g', .slice B m d]] w fun e w' => e = .returned (.bool (sameB g g' l k)) ∧ Below w.heap.size w w' := by
  by_cases hgg : g = g'
  · subst hgg
    have fin := Lib.hid (show sameB g g l k = decide (l = k) by simp [sameB])
    go_enter Try.func42, Try.ntmps42
    go_wp2_with fail
    refine (sameLimbs_any _ A B n c m d l k ((h.alloc _).alloc _) hn ((h'.alloc _).alloc _) hm).mono ?_
    rintro e w' ⟨rfl, q, rfl⟩
    go_wp2
    go_ret
    rw [fin.out]
    exact ⟨rfl, (((Below.refl _ _).alloc (Nat.le_refl _) _).alloc (by simp) _).drewN' q⟩
  · have fin := Lib.hid (show sameB g g' l k = false by simp [sameB, hgg])
    have hne : (g == g') = false := by simpa using hgg
    go_enter Try.func42, Try.ntmps42
    go_wp2
    go_ret
    rw [fin.out]
    exact ⟨rfl, ((Below.refl _ _).alloc (Nat.le_refl _) _).alloc (by simp) _⟩

/-- Limbs with a sign; 0 has none. -/
def signedV (g : Bool) (A : Option Addr) (n c : Nat) : Value := if n = 0 then .agg #[.bool false, .slice none 0 0] else .agg #[.bool g, .slice A n c]

set_option maxRecDepth 100000 in
theorem signed_any (w : World) (g : Bool) (A : Option Addr) (n c : Nat) :
    Calls Try.prog 46 #[.bool g, .slice A n c] w fun e w' => e = .returned (signedV g A n c) ∧ Below w.heap.size w w' := by
  by_cases h0 : n = 0
  · subst h0
    go_enter Try.func46, Try.ntmps46
    go_wp2
    exact bodyPost_ret (v := .agg #[.bool false, .slice none 0 0]) (by simp [results, Try.results46, go_sem]) rfl ⟨by simp [signedV], (Below.refl _ _).alloc (Nat.le_refl _) _⟩
  · have hne : (((n : Nat) : Int) == 0) = false := by rw [beq_eq_false_iff_ne]; omega
    go_enter Try.func46, Try.ntmps46
    go_wp2
    exact bodyPost_ret (v := .agg #[.bool g, .slice A n c]) (by simp [results, Try.results46, go_sem]) rfl ⟨by simp [signedV, h0], (Below.refl _ _).alloc (Nat.le_refl _) _⟩

end Go.Proofs.Ytmcfokeibecopaa

namespace Go.Proofs.Ytmcfokeibecopaa
open Go.RowKit

/-- What addLimbs leaves: a new row. -/
def SumPost (w : World) (N v : Nat) (e : Ending) (w' : World) : Prop :=
  ∃ t : List Nat, e = .returned (.slice (some ⟨w.heap.size, 0, none⟩) N N) ∧ w' = w.alloc (.cells (arr t) 60) ∧ t.length = N ∧ Lm.Small t ∧ Lm.val t = v

set_option maxRecDepth 100000 in
theorem cast3d (x a b : Nat) : ((x : Int) + a + b) / 4294967296 = (((x + a + b) / 4294967296 : Nat) : Int) := by omega
set_option maxRecDepth 100000 in
theorem cast3m (x a b : Nat) : ((x : Int) + a + b) % 4294967296 = (((x + a + b) % 4294967296 : Nat) : Int) := by omega
set_option maxRecDepth 100000 in
theorem cast2d (x a : Nat) : ((x : Int) + a) / 4294967296 = (((x + a + 0) / 4294967296 : Nat) : Int) := by omega
set_option maxRecDepth 100000 in
theorem cast2m (x a : Nat) : ((x : Int) + a) % 4294967296 = (((x + a + 0) % 4294967296 : Nat) : Int) := by omega

set_option maxRecDepth 100000 in
theorem sub_wrap (a x b : Nat) (ha : a ≤ 4294967295) (hx : x ≤ 1) (hb : b ≤ 4294967295) :
    ∃ y b' : Nat, IntKind.u64.wrap (IntKind.u64.wrap ((a : Int) - x) - b) % 4294967296 = (y : Int) ∧ IntKind.u64.wrap (IntKind.u64.wrap ((a : Int) - x) - b) / 9223372036854775808 = (b' : Int) ∧ b' ≤ 1 ∧ y < 4294967296 ∧ a + 4294967296 * b' = y + b + x := by
  rw [IntKind.wrap_u64, IntKind.wrap_u64]
  refine ⟨((((a : Int) - x) % 18446744073709551616 - b) % 18446744073709551616 % 4294967296).toNat, ((((a : Int) - x) % 18446744073709551616 - b) % 18446744073709551616 / 9223372036854775808).toNat, ?_, ?_, ?_, ?_, ?_⟩ <;> omega
set_option maxRecDepth 100000 in
theorem sub_wrap0 (a x : Nat) (ha : a ≤ 4294967295) (hx : x ≤ 1) :
    ∃ y b' : Nat, IntKind.u64.wrap ((a : Int) - x) % 4294967296 = (y : Int) ∧ IntKind.u64.wrap ((a : Int) - x) / 9223372036854775808 = (b' : Int) ∧ b' ≤ 1 ∧ y < 4294967296 ∧ a + 4294967296 * b' = y + 0 + x := by
  rw [IntKind.wrap_u64]
  refine ⟨(((a : Int) - x) % 18446744073709551616 % 4294967296).toNat, (((a : Int) - x) % 18446744073709551616 / 9223372036854775808).toNat, ?_, ?_, ?_, ?_, ?_⟩ <;> omega

end Go.Proofs.Ytmcfokeibecopaa

namespace Go.Proofs.Ytmcfokeibecopaa
open Go.RowKit

set_option maxRecDepth 100000 in
theorem val_zeros (n : Nat) : Lm.val (List.replicate n 0) = 0 := by
  induction n with
  | zero => rfl
  | succ n ih => rw [List.replicate_succ, Lm.val, ih]

set_option maxRecDepth 100000 in
theorem mul_wrap (x a b z : Nat) (h : x + (a * b + z) < 18446744073709551616) : IntKind.u64.wrap ((x : Int) + IntKind.u64.wrap (IntKind.u64.wrap ((a : Int) * b) + z)) = ((x + (a * b + z) : Nat) : Int) := by
  rw [← Int.natCast_mul]
  generalize a * b = p at *
  rw [IntKind.wrap_u64, IntKind.wrap_u64, IntKind.wrap_u64]
  omega
set_option maxRecDepth 100000 in
theorem castd (x : Nat) : (x : Int) / 4294967296 = ((x / 4294967296 : Nat) : Int) := by omega
set_option maxRecDepth 100000 in
theorem castm (x : Nat) : (x : Int) % 4294967296 = ((x % 4294967296 : Nat) : Int) := by omega
set_option maxRecDepth 100000 in
theorem div_small {x : Nat} (h : x < 18446744073709551616) : x / 4294967296 ≤ 4294967295 := by omega

end Go.Proofs.Ytmcfokeibecopaa

namespace Go.Proofs.Ytmcfokeibecopaa
open Go.RowKit

set_option maxRecDepth 100000 in
theorem Lm.digits_take {l : List Nat} (hs : Lm.Small l) : Lm.digits (Lm.val l) = l.take (Lm.digits (Lm.val l)).length := by
  have key : ∀ n, n ≤ l.length → (∀ j, n ≤ j → j < l.length → l.getD j 0 = 0) → ∃ k, k ≤ l.length ∧ Lm.digits (Lm.val l) = l.take k := by
    intro n
    induction n with
    | zero => intro _ hz; exact ⟨0, Nat.zero_le _, Lm.digits_prefix hs 0 (Nat.zero_le _) hz (.inl rfl)⟩
    | succ n ih =>
      intro hn hz
      by_cases h : l.getD n 0 = 0
      · exact ih (by omega) (fun j h1 h2 => by
          by_cases e : j = n
          · rw [e]; exact h
          · exact hz j (by omega) h2)
      · exact ⟨n + 1, hn, Lm.digits_prefix hs (n + 1) hn hz (.inr h)⟩
  obtain ⟨k, hk, e⟩ := key l.length (Nat.le_refl _) (fun j h1 h2 => by omega)
  have : (Lm.digits (Lm.val l)).length = k := by rw [e, List.length_take]; omega
  rw [this]
  exact e

def limbVs (l : List Nat) : List Value := l.map fun x : Nat => Value.int .u32 (x : Int)
set_option maxRecDepth 100000 in
theorem limbVs_len (l : List Nat) : (limbVs l).length = l.length := by simp [limbVs]
set_option maxRecDepth 100000 in
theorem limbVs_take (l : List Nat) (k : Nat) : limbVs (l.take k) = (limbVs l).take k := by simp [limbVs, List.map_take]
set_option maxRecDepth 100000 in
theorem limbVs_get {l : List Nat} {j : Nat} (h : j < l.length) : (limbVs l)[j]? = some (.int .u32 (Lm.lg l j : Nat)) := by simp [limbVs, Lm.lg, h]
set_option maxRecDepth 100000 in
theorem arr_toList (t : List Nat) : (arr t).toList = limbVs t := by simp [arr, limbVs]

/-- The slice 'A, n, c' is a row of the call's own, from block 'base' on, with the limbs l. -/
def Own (w : World) (base : Nat) (A : Option Addr) (n c : Nat) (l : List Nat) : Prop :=
  Lm.Small l ∧ l.length = n ∧ w.ownsRow base 60 1 (.slice A n c) n (limbVs l)

section
variable {w w' : World} {base n c : Nat} {A : Option Addr} {l : List Nat}

set_option maxRecDepth 100000 in
theorem Own.nil (w : World) (base : Nat) : Own w base none 0 0 [] := ⟨Lm.small_nil, rfl, World.ownsRow_nil _ _ _ _⟩

set_option maxRecDepth 100000 in
theorem Own.cap (h : Own w base A n c l) : n ≤ c ∧ c ≤ maxLen := by
  rcases h.2.2.2 with ⟨hv, hn⟩ | ⟨g, cap, cur, hv, _, _, h1, h2, _⟩
  · injection hv with _ _ hc
    subst hc
    exact ⟨by omega, Nat.zero_le _⟩
  · injection hv with _ _ hc
    subst hc
    exact ⟨h1, h2⟩

set_option maxRecDepth 100000 in
theorem Own.lim (h : Own w base A n c l) : Lim w A n c l := by
  refine ⟨h.2.1, h.cap.1, h.1, fun hn => ?_⟩
  rcases h.2.2.2 with ⟨_, h0⟩ | ⟨g, cap, cur, hv, hb, hg, h1, h2, h3, h4⟩
  · omega
  · injection hv with hA _ hc
    subst hA hc
    refine ⟨g, 0, rfl, (Array.getElem?_eq_some_iff.1 hg).1, fun j hj => ?_⟩
    rw [Nat.zero_add, World.ownsRow.cellAt h.2.2 j (by omega), limbVs_get (by rw [h.2.1]; exact hj)]

set_option maxRecDepth 100000 in
theorem Own.below (h : Own w base A n c l) (hb : Below w.heap.size w w') : Own w' base A n c l := by
  refine ⟨h.1, h.2.1, h.2.2.1, ?_⟩
  rcases h.2.2.2 with h0 | ⟨g, cap, cur, hv, hbg, hg, rest⟩
  · exact .inl h0
  · exact .inr ⟨g, cap, cur, hv, hbg, (hb.block g (Array.getElem?_eq_some_iff.1 hg).1).trans hg, rest⟩

set_option maxRecDepth 100000 in
theorem Own.mono {base' : Nat} (h : Own w base A n c l) (hb : base' ≤ base) : Own w base' A n c l := by
  refine ⟨h.1, h.2.1, h.2.2.1, ?_⟩
  rcases h.2.2.2 with h0 | ⟨g, cap, cur, hv, hbg, rest⟩
  · exact .inl h0
  · exact .inr ⟨g, cap, cur, hv, Nat.le_trans hb hbg, rest⟩

set_option maxRecDepth 100000 in
theorem Own.take (h : Own w base A n c l) (k : Nat) (hk : k ≤ n) : Own w base A k c (l.take k) := by
  refine ⟨Lm.small_take h.1 k, by rw [List.length_take, h.2.1]; omega, by rw [limbVs_len, List.length_take, h.2.1]; omega, ?_⟩
  rcases h.2.2.2 with ⟨hv, h0⟩ | ⟨g, cap, cur, hv, hbg, hg, h1, h2, h3, h4⟩
  · injection hv with hA _ hc
    subst hA hc
    have : k = 0 := by omega
    subst this
    exact .inl ⟨rfl, rfl⟩
  · injection hv with hA _ hc
    subst hA hc
    refine .inr ⟨g, _, cur, rfl, hbg, hg, by omega, h2, h3, ?_⟩
    rw [limbVs_take, ← h4, List.take_take]
    congr 1
    omega

set_option maxRecDepth 100000 in
theorem Own.new (w : World) (base : Nat) (t : List Nat) (hs : Lm.Small t) (hb : base ≤ w.heap.size) (hl : t.length ≤ maxLen) :
    Own (w.alloc (.cells (arr t) 60)) base (some ⟨w.heap.size, 0, none⟩) t.length t.length t := by
  refine ⟨hs, rfl, ?_⟩
  have := World.ownsRow_lit (e := 60) (size := 1) w (arr t) t.length hb hl (by rw [arr_size]; omega)
  rw [arr_toList] at this
  exact this
end

/-- A number that has a sign. -/
def sgn (g : Bool) (v : Nat) : Int := if g then -(v : Int) else (v : Int)

/-- The value V is the integer z; its limbs are the call's own, from block 'base' on. -/
def NumV (w : World) (base : Nat) (V : Value) (z : Int) : Prop :=
  ∃ (s : Bool) (A : Option Addr) (n c : Nat), V = .agg #[.bool s, .slice A n c] ∧ Hid (s = decide (z < 0)) ∧ Own w base A n c (Lm.digits z.natAbs)

set_option maxRecDepth 100000 in
theorem NumV.below {w w' : World} {base : Nat} {V : Value} {z : Int} (h : NumV w base V z) (hb : Below w.heap.size w w') : NumV w' base V z := by
  obtain ⟨s, A, n, c, e, hs, ho⟩ := h
  exact ⟨s, A, n, c, e, hs, ho.below hb⟩
set_option maxRecDepth 100000 in
theorem NumV.mono {w : World} {base base' : Nat} {V : Value} {z : Int} (h : NumV w base V z) (hb : base' ≤ base) : NumV w base' V z := by
  obtain ⟨s, A, n, c, e, hs, ho⟩ := h
  exact ⟨s, A, n, c, e, hs, ho.mono hb⟩
set_option maxRecDepth 100000 in
theorem NumV.zero (w : World) (base : Nat) : NumV w base (.agg #[.bool false, .slice none 0 0]) 0 :=
  ⟨false, none, 0, 0, rfl, Lib.hid rfl, by rw [show (0 : Int).natAbs = 0 from rfl, Lm.digits_zero]; exact Own.nil w base⟩

set_option maxRecDepth 100000 in
/-- What 'signed' makes of trimmed limbs. -/
theorem signedV_num {w : World} {base : Nat} {g : Bool} {A : Option Addr} {n c v : Nat} (h : Own w base A n c (Lm.digits v)) : NumV w base (signedV g A n c) (sgn g v) := by
  have hn := h.2.1
  unfold signedV
  by_cases h0 : n = 0
  · rw [if_pos h0]
    have hv : v = 0 := Lm.digits_eq_nil.1 (List.eq_nil_of_length_eq_zero (by omega))
    subst hv
    have : sgn g 0 = 0 := by cases g <;> rfl
    rw [this]
    exact NumV.zero w base
  · rw [if_neg h0]
    have hv : v ≠ 0 := fun e => by rw [e, Lm.digits_zero] at hn; exact h0 hn.symm
    refine ⟨g, A, n, c, rfl, ?_, ?_⟩
    · have : decide (sgn g v < 0) = g := by cases g <;> simp [sgn] <;> omega
      rw [this]
      exact Lib.hid rfl
    · have : (sgn g v).natAbs = v := by cases g <;> simp [sgn]
      rw [this]
      exact h


/-- Block g is a variable of two cells. -/
def Box (w : World) (g : Nat) (x y : Value) : Prop := w.heap[g]? = some (.cells #[x, y] 24 (0, 0))
section
variable {w w' : World} {g : Nat} {x y : Value}
set_option maxRecDepth 100000 in
theorem Box.lt (h : Box w g x y) : g < w.heap.size := (Array.getElem?_eq_some_iff.1 h).1
set_option maxRecDepth 100000 in
theorem Box.c0 (h : Box w g x y) : w.cell? ⟨g, 0, none⟩ = some x := by rw [cell_of_row w g 0 #[x, y] _ (0, 0) h]; rfl
set_option maxRecDepth 100000 in
theorem Box.c1 (h : Box w g x y) : w.cell? ⟨g, 1, none⟩ = some y := by rw [cell_of_row w g 1 #[x, y] _ (0, 0) h]; rfl
set_option maxRecDepth 100000 in
theorem Box.f0 (h : Box w g x y) : w.frozen? ⟨g, 0, none⟩ = false := by unfold Box at h; simp [World.frozen?, h]
set_option maxRecDepth 100000 in
theorem Box.f1 (h : Box w g x y) : w.frozen? ⟨g, 1, none⟩ = false := by unfold Box at h; simp [World.frozen?, h]
set_option maxRecDepth 100000 in
theorem Box.new (w : World) (x y : Value) : Box (w.alloc (.cells #[x, y] 24)) w.heap.size x y := heap_alloc_new w _
set_option maxRecDepth 100000 in
theorem Box.alloc (h : Box w g x y) (o : Obj) : Box (w.alloc o) g x y := (Below.heap_alloc w o g h.lt).trans h
set_option maxRecDepth 100000 in
theorem Box.below {B : Nat} (h : Box w g x y) (hb : Below B w w') (hg : g < B) : Box w' g x y := (hb.block g hg).trans h
set_option maxRecDepth 100000 in
theorem Box.below' (h : Box w g x y) (hb : Below w.heap.size w w') : Box w' g x y := h.below hb h.lt
set_option maxRecDepth 100000 in
theorem Box.drewN (h : Box w g x y) (n : Nat) : Box (w.drewN n) g x y := h
set_option maxRecDepth 100000 in
theorem Box.drew (h : Box w g x y) : Box w.drew g x y := h
set_option maxRecDepth 100000 in
theorem Box.set0 (h : Box w g x y) (u : Value) : Box (w.setCell ⟨g, 0, none⟩ u) g u y := by
  unfold Box at h ⊢
  simp [World.setCell, Array.getElem?_modify, h]
set_option maxRecDepth 100000 in
theorem Box.set1 (h : Box w g x y) (u : Value) : Box (w.setCell ⟨g, 1, none⟩ u) g x u := by
  unfold Box at h ⊢
  simp [World.setCell, Array.getElem?_modify, h]
set_option maxRecDepth 100000 in
theorem Own.box {base n c : Nat} {A : Option Addr} {l : List Nat} (ho : Own w base A n c l) (h : Box w g x y) (i : Nat) (u : Value) : Own (w.setCell ⟨g, i, none⟩ u) base A n c l := by
  refine ⟨ho.1, ho.2.1, ho.2.2.1, ?_⟩
  rcases ho.2.2.2 with h0 | ⟨g', cap, cur, hv, hbg, hg, rest⟩
  · exact .inl h0
  · refine .inr ⟨g', cap, cur, hv, hbg, ?_, rest⟩
    rw [Below.heap_setCell w ⟨g, i, none⟩ u g' ?_]
    · exact hg
    · rintro rfl
      unfold Box at h
      rw [hg] at h
      injection h with h
      injection h with _ ht
      exact absurd ht (by decide)
set_option maxRecDepth 100000 in
theorem NumV.box {base : Nat} {V : Value} {z : Int} (hn : NumV w base V z) (h : Box w g x y) (i : Nat) (u : Value) : NumV (w.setCell ⟨g, i, none⟩ u) base V z := by
  obtain ⟨s, A, n, c, e, hs, ho⟩ := hn
  exact ⟨s, A, n, c, e, hs, ho.box h i u⟩
set_option maxRecDepth 100000 in
theorem Box.far (h : Box w g x y) {p : Addr} (hp : g ≠ p.block) (u : Value) : Box (w.setCell p u) g x y := (Below.heap_setCell w p u g hp).trans h
end
end Go.Proofs.Ytmcfokeibecopaa
