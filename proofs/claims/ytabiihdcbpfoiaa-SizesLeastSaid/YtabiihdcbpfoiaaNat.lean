/-
  PLAIN MATHEMATICS OF LIMBS: lists of numbers below 2^32, what they come to, their digits. Nothing of the program stands here.
-/
namespace Go.Proofs.Ytabiihdcbpfoiaa.Lm

/-- What limbs come to, the least one first. -/
def val : List Nat → Nat
  | [] => 0
  | x :: r => x + 4294967296 * val r

/-- Each limb is below 2^32. -/
def Small (l : List Nat) : Prop := ∀ x ∈ l, x < 4294967296

/-- The digits of a number, the least one first; 0 has none. -/
def digits (n : Nat) : List Nat := if h : n = 0 then [] else n % 4294967296 :: digits (n / 4294967296)
termination_by n
decreasing_by omega

/-- The last limb is not 0. -/
def Canon (l : List Nat) : Prop := 0 < l.length → l.getD (l.length - 1) 0 ≠ 0

set_option maxRecDepth 100000 in
theorem digits_zero : digits 0 = [] := by rw [digits]; simp
set_option maxRecDepth 100000 in
theorem digits_pos {n : Nat} (h : n ≠ 0) : digits n = n % 4294967296 :: digits (n / 4294967296) := by
  rw [digits]; simp [h]

set_option maxRecDepth 100000 in
theorem small_nil : Small [] := fun _ h => by simp at h
set_option maxRecDepth 100000 in
theorem small_cons {x : Nat} {l : List Nat} : Small (x :: l) ↔ x < 4294967296 ∧ Small l := by
  simp [Small]
set_option maxRecDepth 100000 in
theorem small_append {a b : List Nat} : Small (a ++ b) ↔ Small a ∧ Small b := by
  simp only [Small, List.mem_append]
  constructor
  · intro h; exact ⟨fun x hx => h x (.inl hx), fun x hx => h x (.inr hx)⟩
  · rintro ⟨h, k⟩ x (hx | hx)
    · exact h x hx
    · exact k x hx
set_option maxRecDepth 100000 in
theorem small_take {l : List Nat} (h : Small l) (k : Nat) : Small (l.take k) := fun x hx => h x (List.mem_of_mem_take hx)
set_option maxRecDepth 100000 in
theorem small_get {l : List Nat} (h : Small l) (k : Nat) (hk : k < l.length) : l[k] < 4294967296 := h _ (List.getElem_mem hk)
set_option maxRecDepth 100000 in
theorem small_getD {l : List Nat} (h : Small l) (k : Nat) : l.getD k 0 < 4294967296 := by
  rw [List.getD_eq_getElem?_getD]
  rcases Nat.lt_or_ge k l.length with hk | hk
  · rw [List.getElem?_eq_getElem hk]; exact small_get h k hk
  · rw [List.getElem?_eq_none hk]; simp

set_option maxRecDepth 100000 in
theorem val_digits (n : Nat) : val (digits n) = n := by
  induction n using Nat.strongRecOn with
  | ind n ih =>
    by_cases h : n = 0
    · subst h; rw [digits_zero]; rfl
    · rw [digits_pos h, val, ih (n / 4294967296) (by omega)]; omega

set_option maxRecDepth 100000 in
theorem small_digits (n : Nat) : Small (digits n) := by
  induction n using Nat.strongRecOn with
  | ind n ih =>
    by_cases h : n = 0
    · subst h; rw [digits_zero]; exact small_nil
    · rw [digits_pos h, small_cons]; exact ⟨by omega, ih _ (by omega)⟩

set_option maxRecDepth 100000 in
theorem digits_eq_nil {n : Nat} : digits n = [] ↔ n = 0 := by
  constructor
  · intro h; have := val_digits n; rw [h] at this; exact this.symm
  · rintro rfl; exact digits_zero

set_option maxRecDepth 100000 in
theorem canon_digits (n : Nat) : Canon (digits n) := by
  induction n using Nat.strongRecOn with
  | ind n ih =>
    by_cases h : n = 0
    · subst h; rw [digits_zero]; intro hx; simp at hx
    · rw [digits_pos h]
      intro _
      by_cases hz : n / 4294967296 = 0
      · rw [hz, digits_zero]; simp; omega
      · have hne : digits (n / 4294967296) ≠ [] := fun e => hz (digits_eq_nil.1 e)
        have hl : 0 < (digits (n / 4294967296)).length := List.length_pos_iff.2 hne
        have := ih _ (by omega) hl
        rw [List.length_cons, Nat.add_sub_cancel]
        obtain ⟨m, hm⟩ : ∃ m, (digits (n / 4294967296)).length = m + 1 := ⟨_, (Nat.succ_pred_eq_of_pos hl).symm⟩
        rw [hm] at this ⊢
        simpa using this

set_option maxRecDepth 100000 in
theorem val_append (a b : List Nat) : val (a ++ b) = val a + 4294967296 ^ a.length * val b := by
  induction a with
  | nil => simp [val]
  | cons x a ih =>
    simp only [List.cons_append, val, ih, List.length_cons, Nat.pow_succ]
    rw [Nat.mul_add, Nat.add_assoc, ← Nat.mul_assoc, Nat.mul_comm 4294967296 (4294967296 ^ a.length)]

set_option maxRecDepth 100000 in
theorem val_lt {l : List Nat} (h : Small l) : val l < 4294967296 ^ l.length := by
  induction l with
  | nil => simp [val]
  | cons x l ih =>
    rw [small_cons] at h
    have := ih h.2
    simp only [val, List.length_cons, Nat.pow_succ]
    have h1 : 4294967296 * (val l + 1) ≤ 4294967296 * 4294967296 ^ l.length := Nat.mul_le_mul_left _ this
    rw [Nat.mul_comm (4294967296 ^ l.length)]
    have := h.1
    omega

set_option maxRecDepth 100000 in
theorem canon_tail {x : Nat} {l : List Nat} (h : Canon (x :: l)) : Canon l := by
  intro hl
  have := h (by simp)
  obtain ⟨m, hm⟩ : ∃ m, l.length = m + 1 := ⟨_, (Nat.succ_pred_eq_of_pos hl).symm⟩
  rw [List.length_cons, Nat.add_sub_cancel, hm] at this
  rw [hm]
  simpa using this

set_option maxRecDepth 100000 in
theorem val_eq_zero {l : List Nat} (hc : Canon l) (h : val l = 0) : l = [] := by
  induction l with
  | nil => rfl
  | cons x l ih =>
    simp only [val] at h
    have hx : x = 0 := by omega
    have hl : val l = 0 := by omega
    have hn := ih (canon_tail hc) hl
    subst hn hx
    exact absurd rfl (hc (by simp))

set_option maxRecDepth 100000 in
theorem digits_val {l : List Nat} (hs : Small l) (hc : Canon l) : digits (val l) = l := by
  induction l with
  | nil => exact digits_zero
  | cons x l ih =>
    rw [small_cons] at hs
    have hne : val (x :: l) ≠ 0 := fun h => by have := val_eq_zero hc h; simp at this
    rw [digits_pos hne]
    have h1 : val (x :: l) % 4294967296 = x := by simp only [val]; omega
    have h2 : val (x :: l) / 4294967296 = val l := by simp only [val]; omega
    rw [h1, h2, ih hs.2 (canon_tail hc)]

set_option maxRecDepth 100000 in
/-- Limbs with a nought on top come to what they come to without. -/
theorem val_snoc_zero (l : List Nat) : val (l ++ [0]) = val l := by rw [val_append]; simp [val]

set_option maxRecDepth 100000 in
/-- The top noughts of limbs. -/
theorem digits_prefix {l : List Nat} (hs : Small l) (k : Nat) (hk : k ≤ l.length) (hz : ∀ j, k ≤ j → j < l.length → l.getD j 0 = 0) (ht : k = 0 ∨ l.getD (k - 1) 0 ≠ 0) :
    digits (val l) = l.take k := by
  have hv : val l = val (l.take k) := by
    have e : l = l.take k ++ l.drop k := (List.take_append_drop k l).symm
    have hd : val (l.drop k) = 0 := by
      have : ∀ m : List Nat, (∀ j, j < m.length → m.getD j 0 = 0) → val m = 0 := by
        intro m
        induction m with
        | nil => intro _; rfl
        | cons x m ih =>
          intro hm
          have hx := hm 0 (by simp)
          have hr := ih (fun j hj => by have := hm (j + 1) (by simp; omega); simpa using this)
          simp only [val, hr]
          simpa using hx
      refine this _ (fun j hj => ?_)
      have := hz (k + j) (by omega) (by simp at hj; omega)
      rw [List.getD_eq_getElem?_getD, List.getElem?_drop, ← List.getD_eq_getElem?_getD]
      exact this
    conv => lhs; rw [e]
    rw [val_append, hd]; simp
  rw [hv]
  refine digits_val (small_take hs k) ?_
  intro hx
  rw [List.length_take, Nat.min_eq_left hk] at hx ⊢
  have ht' : l.getD (k - 1) 0 ≠ 0 := by
    rcases ht with h | h
    · omega
    · exact h
  rw [List.getD_eq_getElem?_getD, List.getElem?_take_of_lt (by omega), ← List.getD_eq_getElem?_getD]
  exact ht'

set_option maxRecDepth 100000 in
/-- How many digits there are. -/
theorem digits_length (n k : Nat) : (digits n).length ≤ k ↔ n < 4294967296 ^ k := by
  constructor
  · intro h
    have h1 := val_lt (small_digits n)
    rw [val_digits] at h1
    exact Nat.lt_of_lt_of_le h1 (Nat.pow_le_pow_right (by decide) h)
  · induction k generalizing n with
    | zero => intro h; have : n = 0 := by simp at h; exact h
              subst this; rw [digits_zero]; simp
    | succ k ih =>
      intro h
      by_cases h0 : n = 0
      · subst h0; rw [digits_zero]; simp
      · rw [digits_pos h0]
        have := ih (n / 4294967296) (by rw [Nat.pow_succ, Nat.mul_comm] at h; exact Nat.div_lt_of_lt_mul h)
        simp; exact this

set_option maxRecDepth 100000 in
theorem digits_small_len {l : List Nat} (hs : Small l) : (digits (val l)).length ≤ l.length := (digits_length _ _).2 (val_lt hs)

set_option maxRecDepth 100000 in
/-- Two rows of limbs of one length stand as the greatest unlike limbs do. -/
theorem val_lt_of_top {a b : List Nat} (ha : Small a) (_hb : Small b) (k : Nat) (hl : a.length = b.length) (hk : k < a.length)
    (heq : ∀ j, k < j → j < a.length → a.getD j 0 = b.getD j 0) (hlt : a.getD k 0 < b.getD k 0) : val a < val b := by
  induction a generalizing b k with
  | nil => simp at hk
  | cons x a ih =>
    cases b with
    | nil => simp at hl
    | cons y b =>
      rw [small_cons] at ha
      rw [small_cons] at _hb
      simp at hl
      simp only [val]
      cases k with
      | zero =>
        have : a = b := by
          apply List.ext_getElem hl
          intro i h1 h2
          have := heq (i + 1) (by omega) (by simp; omega)
          simp [List.getD_eq_getElem?_getD, h1, h2] at this
          exact this
        subst this
        simp at hlt
        omega
      | succ k =>
        have := ih ha.2 _hb.2 k hl (by simp at hk; omega) (fun j h1 h2 => by have := heq (j + 1) (by omega) (by simp; omega); simpa using this) (by simpa using hlt)
        omega

set_option maxRecDepth 100000 in
theorem eq_of_getD {a b : List Nat} (hl : a.length = b.length) (h : ∀ j, j < a.length → a.getD j 0 = b.getD j 0) : a = b := by
  apply List.ext_getElem hl
  intro i h1 h2
  have := h i h1
  simpa [List.getD_eq_getElem?_getD, h1, h2] using this

set_option maxRecDepth 100000 in
/-- Fewer limbs are less, where the last one is not 0. -/
theorem val_lt_of_length {a b : List Nat} (ha : Small a) (hb : Small b) (hc : Canon b) (hl : a.length < b.length) : val a < val b := by
  have h1 := val_lt ha
  have h2 : ¬ val b < 4294967296 ^ a.length := fun h => by
    have := (digits_length (val b) a.length).2 h
    rw [digits_val hb hc] at this
    omega
  omega

/-- The limb at a place; 0 behind the last one. (Under a name of its own, so that no walk turns it.) -/
def lg (l : List Nat) (j : Nat) : Nat := l.getD j 0
set_option maxRecDepth 100000 in
theorem lg_def (l : List Nat) (j : Nat) : lg l j = l.getD j 0 := rfl
set_option maxRecDepth 100000 in
theorem lg_lt {l : List Nat} (h : Small l) (j : Nat) : lg l j < 4294967296 := small_getD h j
set_option maxRecDepth 100000 in
theorem lg_nil (j : Nat) : lg [] j = 0 := rfl
set_option maxRecDepth 100000 in
theorem lg_zero (x : Nat) (l : List Nat) : lg (x :: l) 0 = x := rfl
set_option maxRecDepth 100000 in
theorem lg_succ (x : Nat) (l : List Nat) (j : Nat) : lg (x :: l) (j + 1) = lg l j := by simp [lg]
set_option maxRecDepth 100000 in
theorem lg_take {l : List Nat} {k j : Nat} (h : j < k) : lg (l.take k) j = lg l j := by
  simp only [lg, List.getD_eq_getElem?_getD, List.getElem?_take_of_lt h]
set_option maxRecDepth 100000 in
theorem lg_out {l : List Nat} {j : Nat} (h : l.length ≤ j) : lg l j = 0 := by
  simp only [lg, List.getD_eq_getElem?_getD, List.getElem?_eq_none h, Option.getD_none]
set_option maxRecDepth 100000 in
theorem lg_append_left {a b : List Nat} {j : Nat} (h : j < a.length) : lg (a ++ b) j = lg a j := by
  simp only [lg, List.getD_eq_getElem?_getD, List.getElem?_append_left h]
set_option maxRecDepth 100000 in
theorem lg_append_right {a b : List Nat} {j : Nat} (h : a.length ≤ j) : lg (a ++ b) j = lg b (j - a.length) := by
  simp only [lg, List.getD_eq_getElem?_getD, List.getElem?_append_right h]
set_option maxRecDepth 100000 in
theorem take_succ_lg {l : List Nat} {k : Nat} (h : k < l.length) : l.take (k + 1) = l.take k ++ [lg l k] := by
  rw [List.take_succ_eq_append_getElem h]; simp [lg, h]
set_option maxRecDepth 100000 in
theorem eq_of_lg {a b : List Nat} (hl : a.length = b.length) (h : ∀ j, j < a.length → lg a j = lg b j) : a = b := eq_of_getD hl h

/-- How two numbers stand. -/
def cmpN (a b : Nat) : Int := if a < b then -1 else if b < a then 1 else 0

end Go.Proofs.Ytabiihdcbpfoiaa.Lm
