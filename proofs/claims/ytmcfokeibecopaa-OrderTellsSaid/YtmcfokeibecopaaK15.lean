/-
  PLAIN MATHEMATICS OF SORTING in place: what moves within a part, rising parts, turning two parts round. Nothing of the program stands here.
  SORTING IN PLACE: a row of pointers to terms; swapRange, rotate.
  SORTING IN PLACE: insertionSort.
  SORTING IN PLACE: symMerge where one part has one element.
-/
import Derived.Test.YtmcfokeibecopaaK14
import Derived.BigRegion
import Derived.IntWalk
namespace Go.Proofs.Ytmcfokeibecopaa
namespace Srt

/-- A total order, going along. -/
structure Tot (le : Nat → Nat → Prop) : Prop where
  total : ∀ x y, le x y ∨ le y x
  trans : ∀ x y z, le x y → le y z → le x z
set_option maxRecDepth 100000 in
theorem Tot.refl {le : Nat → Nat → Prop} (h : Tot le) (x : Nat) : le x x := (h.total x x).elim id id
set_option maxRecDepth 100000 in
theorem Tot.of_not {le : Nat → Nat → Prop} (h : Tot le) {x y : Nat} (hn : ¬ le x y) : le y x := (h.total x y).resolve_left hn
/-- What stands from a up to b rises. -/
def Up (le : Nat → Nat → Prop) (d : Nat → Nat) (a b : Nat) : Prop := ∀ x y, a ≤ x → x ≤ y → y < b → le (d x) (d y)
/-- What stands from a up to b has been moved there. -/
def Mv (a b : Nat) (d d' : Nat → Nat) : Prop := ∃ s t : Nat → Nat, (∀ x, t (s x) = x) ∧ (∀ x, s (t x) = x) ∧ (∀ x, x < a ∨ b ≤ x → s x = x) ∧ ∀ x, d' x = d (s x)
set_option maxRecDepth 100000 in
theorem Mv.refl (a b : Nat) (d : Nat → Nat) : Mv a b d d := ⟨id, id, fun _ => rfl, fun _ => rfl, fun _ _ => rfl, fun _ => rfl⟩
set_option maxRecDepth 100000 in
theorem Mv.trans {a b : Nat} {d d' d'' : Nat → Nat} (h : Mv a b d d') (k : Mv a b d' d'') : Mv a b d d'' := by
  obtain ⟨s, t, h1, h2, h3, h4⟩ := h
  obtain ⟨u, v, k1, k2, k3, k4⟩ := k
  refine ⟨fun x => s (u x), fun x => v (t x), fun x => by simp only [h1, k1], fun x => by simp only [k2, h2], fun x hx => by simp only [k3 x hx, h3 x hx], fun x => by rw [k4, h4]⟩
set_option maxRecDepth 100000 in
theorem Mv.mono {a b a' b' : Nat} {d d' : Nat → Nat} (h : Mv a b d d') (ha : a' ≤ a) (hb : b ≤ b') : Mv a' b' d d' := by
  obtain ⟨s, t, h1, h2, h3, h4⟩ := h
  exact ⟨s, t, h1, h2, fun x hx => h3 x (by omega), h4⟩
set_option maxRecDepth 100000 in
theorem Mv.out {a b : Nat} {d d' : Nat → Nat} (h : Mv a b d d') {x : Nat} (hx : x < a ∨ b ≤ x) : d' x = d x := by
  obtain ⟨s, t, h1, h2, h3, h4⟩ := h
  rw [h4, h3 x hx]
set_option maxRecDepth 100000 in
theorem Mv.mem {a b : Nat} {d d' : Nat → Nat} (h : Mv a b d d') {x : Nat} (h1 : a ≤ x) (h2 : x < b) : ∃ y, a ≤ y ∧ y < b ∧ d' x = d y := by
  obtain ⟨s, t, k1, k2, k3, k4⟩ := h
  refine ⟨s x, ?_, ?_, k4 x⟩
  · apply Nat.le_of_not_lt
    intro hlt
    have e := k3 (s x) (.inl hlt)
    have := k1 (s x)
    rw [e, k1 x] at this
    omega
  · apply Nat.lt_of_not_le
    intro hle
    have e := k3 (s x) (.inr hle)
    have := k1 (s x)
    rw [e, k1 x] at this
    omega
set_option maxRecDepth 100000 in
/-- The row as a list is the same, but for the order. -/
theorem Mv.perm {n : Nat} {d d' : Nat → Nat} (h : Mv 0 n d d') : ((List.range n).map d').Perm ((List.range n).map d) := by
  obtain ⟨s, t, h1, h2, h3, h4⟩ := h
  have e : (List.range n).map d' = ((List.range n).map s).map d := by
    rw [List.map_map]
    exact List.map_congr_left fun x _ => h4 x
  rw [e]
  refine List.Perm.map d ?_
  have inj : ∀ x y, s x = s y → x = y := fun x y e => by rw [← h1 x, e, h1]
  refine (List.perm_ext_iff_of_nodup ?_ List.nodup_range).2 ?_
  · rw [List.nodup_iff_pairwise_ne, List.pairwise_map]
    exact List.Pairwise.imp (fun hne e => hne (inj _ _ e)) (List.nodup_iff_pairwise_ne.1 List.nodup_range)
  · intro x
    simp only [List.mem_map, List.mem_range]
    constructor
    · rintro ⟨y, hy, rfl⟩
      apply Nat.lt_of_not_le
      intro hle
      have := inj _ _ (h3 (s y) (.inr hle))
      omega
    · intro hx
      refine ⟨t x, ?_, h2 x⟩
      apply Nat.lt_of_not_le
      intro hle
      have e := h3 (t x) (.inr hle)
      rw [h2] at e
      omega

/-- Two change places. -/
def swp (d : Nat → Nat) (i j : Nat) : Nat → Nat := fun x => if x = i then d j else if x = j then d i else d x
set_option maxRecDepth 100000 in
theorem swp_mv {a b i j : Nat} (d : Nat → Nat) (hi : a ≤ i) (hi' : i < b) (hj : a ≤ j) (hj' : j < b) : Mv a b d (swp d i j) := by
  refine ⟨fun x => if x = i then j else if x = j then i else x, fun x => if x = i then j else if x = j then i else x, ?_, ?_, ?_, ?_⟩
  · intro x
    simp only
    repeat' split
    all_goals omega
  · intro x
    simp only
    repeat' split
    all_goals omega
  · intro x hx
    simp only
    rw [if_neg (by omega), if_neg (by omega)]
  · intro x
    simp only [swp]
    repeat' split
    all_goals first | rfl | omega

/-- k from a on and k from b on change places. -/
def swR (d : Nat → Nat) (a b k : Nat) : Nat → Nat := fun x => if a ≤ x ∧ x < a + k then d (x - a + b) else if b ≤ x ∧ x < b + k then d (x - b + a) else d x
set_option maxRecDepth 100000 in
theorem swR_zero (d : Nat → Nat) (a b : Nat) : swR d a b 0 = d := by
  funext x
  unfold swR
  rw [if_neg (by omega), if_neg (by omega)]
set_option maxRecDepth 100000 in
theorem swR_succ (d : Nat → Nat) (a b k : Nat) (h : a + k < b) : swp (swR d a b k) (a + k) (b + k) = swR d a b (k + 1) := by
  funext x
  unfold swp swR
  repeat' split
  all_goals first | rfl | (exfalso; omega) | (congr 1; omega)
set_option maxRecDepth 100000 in
theorem swR_mv (d : Nat → Nat) (a b k lo hi : Nat) (h : a + k ≤ b) (hl : lo ≤ a) (hh : b + k ≤ hi) : Mv lo hi d (swR d a b k) := by
  induction k with
  | zero => rw [swR_zero]; exact Mv.refl _ _ _
  | succ k ih =>
    rw [← swR_succ d a b k (by omega)]
    exact (ih (by omega) (by omega)).trans (swp_mv _ (by omega) (by omega) (by omega) (by omega))
/-- What stands from a up to m and what stands from m up to b change places. -/
def rot (d : Nat → Nat) (a m b : Nat) : Nat → Nat := fun x => if a ≤ x ∧ x < a + (b - m) then d (x + (m - a)) else if a + (b - m) ≤ x ∧ x < b then d (x - (b - m)) else d x
set_option maxRecDepth 100000 in
theorem rot_more (d : Nat → Nat) (m i j : Nat) (h : j < i) (hi : i ≤ m) : rot (swR d (m - i) m j) (m - (i - j)) m (m + j) = rot d (m - i) m (m + j) := by
  funext x
  unfold rot swR
  repeat' split
  all_goals first | rfl | (exfalso; omega) | (congr 1; omega)
set_option maxRecDepth 100000 in
theorem rot_less (d : Nat → Nat) (m i j : Nat) (h : i < j) (hi : i ≤ m) : rot (swR d (m - i) (m + j - i) i) (m - i) m (m + (j - i)) = rot d (m - i) m (m + j) := by
  funext x
  unfold rot swR
  repeat' split
  all_goals first | rfl | (exfalso; omega) | (congr 1; omega)
set_option maxRecDepth 100000 in
theorem rot_same (d : Nat → Nat) (m i : Nat) (hi : i ≤ m) : swR d (m - i) m i = rot d (m - i) m (m + i) := by
  funext x
  unfold rot swR
  repeat' split
  all_goals first | rfl | (exfalso; omega) | (congr 1; omega)

/-! ### Putting in one by one -/
/-- All pairs up to i rise, but for what stands at j as the second. -/
def Ins (le : Nat → Nat → Prop) (d : Nat → Nat) (a i j : Nat) : Prop := ∀ x y, a ≤ x → x < y → y ≤ i → y ≠ j → le (d x) (d y)
set_option maxRecDepth 100000 in
theorem Ins.start {le : Nat → Nat → Prop} {d : Nat → Nat} {a i : Nat} (h : Up le d a i) : Ins le d a i i := fun x y h1 h2 h3 h4 => h x y h1 (by omega) (by omega)
set_option maxRecDepth 100000 in
theorem Ins.step {le : Nat → Nat → Prop} (T : Tot le) {d : Nat → Nat} {a i j : Nat} (h : Ins le d a i j) (hj : a < j) (hn : ¬ le (d (j - 1)) (d j)) (hji : j ≤ i) : Ins le (swp d j (j - 1)) a i (j - 1) := by
  intro x y h1 h2 h3 h4
  unfold swp
  by_cases e : y = j
  · subst e
    rw [if_pos rfl]
    by_cases e2 : x = y - 1
    · subst e2
      rw [if_neg (by omega), if_pos rfl]
      exact T.of_not hn
    · rw [if_neg (by omega), if_neg e2]
      exact h x (y - 1) h1 (by omega) (by omega) (by omega)
  · rw [if_neg (show ¬ y = j from e), if_neg h4]
    by_cases e2 : x = j
    · rw [if_pos e2]
      exact h (j - 1) y (by omega) (by omega) h3 e
    · rw [if_neg e2]
      by_cases e3 : x = j - 1
      · rw [if_pos e3]
        exact h j y (by omega) (by omega) h3 e
      · rw [if_neg e3]
        exact h x y h1 h2 h3 e
set_option maxRecDepth 100000 in
theorem Ins.done {le : Nat → Nat → Prop} (T : Tot le) {d : Nat → Nat} {a i j : Nat} (h : Ins le d a i j) (hj : j = a ∨ le (d (j - 1)) (d j)) (haj : a ≤ j) : Up le d a (i + 1) := by
  intro x y h1 h2 h3
  by_cases e : x = y
  · subst e; exact T.refl _
  · by_cases e2 : y = j
    · subst e2
      rcases hj with hj | hj
      · omega
      · by_cases e3 : x = y - 1
        · rw [e3]; exact hj
        · exact T.trans _ _ _ (h x (y - 1) h1 (by omega) (by omega) (by omega)) hj
    · exact h x y h1 (by omega) (by omega) e2

/-! ### One moved up, or down -/
/-- What stands at a goes up to i, those between one down. -/
def shU (d : Nat → Nat) (a i : Nat) : Nat → Nat := fun x => if a ≤ x ∧ x < i then d (x + 1) else if x = i then d a else d x
set_option maxRecDepth 100000 in
theorem shU_zero (d : Nat → Nat) (a : Nat) : shU d a a = d := by
  funext x
  unfold shU
  repeat' split
  all_goals first | rfl | (exfalso; omega) | (congr 1; omega)
set_option maxRecDepth 100000 in
theorem shU_succ (d : Nat → Nat) (a k : Nat) (h : a ≤ k) : swp (shU d a k) k (k + 1) = shU d a (k + 1) := by
  funext x
  unfold swp shU
  repeat' split
  all_goals first | rfl | (exfalso; omega) | (congr 1; omega)
set_option maxRecDepth 100000 in
theorem shU_mv (d : Nat → Nat) (a b k : Nat) (h : a ≤ k) (hb : k < b) : Mv a b d (shU d a k) := by
  induction k with
  | zero =>
    have : a = 0 := by omega
    subst this
    rw [shU_zero]; exact Mv.refl _ _ _
  | succ k ih =>
    by_cases e : a = k + 1
    · subst e; rw [shU_zero]; exact Mv.refl _ _ _
    · rw [← shU_succ d a k (by omega)]
      exact (ih (by omega) (by omega)).trans (swp_mv _ (by omega) (by omega) (by omega) (by omega))
/-- What stands at m goes down to i, those between one up. -/
def shD (d : Nat → Nat) (i m : Nat) : Nat → Nat := fun x => if i < x ∧ x ≤ m then d (x - 1) else if x = i then d m else d x
set_option maxRecDepth 100000 in
theorem shD_zero (d : Nat → Nat) (m : Nat) : shD d m m = d := by
  funext x
  unfold shD
  repeat' split
  all_goals first | rfl | (exfalso; omega) | (congr 1; omega)
set_option maxRecDepth 100000 in
theorem shD_succ (d : Nat → Nat) (k m : Nat) (h : k + 1 ≤ m) : swp (shD d (k + 1) m) (k + 1) k = shD d k m := by
  funext x
  unfold swp shD
  repeat' split
  all_goals first | rfl | (exfalso; omega) | (congr 1; omega)
set_option maxRecDepth 100000 in
theorem shD_mv (d : Nat → Nat) (a b k m : Nat) (ha : a ≤ k) (h : k ≤ m) (hb : m < b) : Mv a b d (shD d k m) := by
  obtain ⟨r, hr⟩ : ∃ r, m = k + r := ⟨m - k, by omega⟩
  induction r generalizing k with
  | zero =>
    have : m = k := by omega
    subst this
    rw [shD_zero]; exact Mv.refl _ _ _
  | succ r ih =>
    rw [← shD_succ d k m (by omega)]
    exact (ih (k + 1) (by omega) (by omega) (by omega)).trans (swp_mv _ (by omega) (by omega) (by omega) (by omega))
set_option maxRecDepth 100000 in
theorem shU_up {le : Nat → Nat → Prop} (T : Tot le) {d : Nat → Nat} {a b i : Nat} (hi : a + 1 ≤ i) (hib : i ≤ b) (hu : Up le d (a + 1) b) (h1 : ∀ x, a + 1 ≤ x → x < i → le (d x) (d a)) (h2 : ∀ x, i ≤ x → x < b → le (d a) (d x)) : Up le (shU d a (i - 1)) a b := by
  intro x y hx hxy hy
  unfold shU
  by_cases e1 : y < i - 1
  · rw [if_pos (by omega), if_pos (by omega)]
    exact hu _ _ (by omega) (by omega) (by omega)
  · rw [if_neg (show ¬ (a ≤ y ∧ y < i - 1) by omega)]
    by_cases e2 : y = i - 1
    · rw [if_pos e2]
      by_cases e3 : x < i - 1
      · rw [if_pos (by omega)]
        exact h1 _ (by omega) (by omega)
      · rw [if_neg (by omega), if_pos (by omega)]
        exact T.refl _
    · rw [if_neg e2]
      by_cases e3 : x < i - 1
      · rw [if_pos (by omega)]
        exact hu _ _ (by omega) (by omega) (by omega)
      · rw [if_neg (by omega)]
        by_cases e4 : x = i - 1
        · rw [if_pos e4]; exact h2 _ (by omega) (by omega)
        · rw [if_neg e4]; exact hu _ _ (by omega) (by omega) (by omega)
set_option maxRecDepth 100000 in
theorem shD_up {le : Nat → Nat → Prop} (T : Tot le) {d : Nat → Nat} {a m i : Nat} (hi : a ≤ i) (him : i ≤ m) (hu : Up le d a m) (h1 : ∀ x, a ≤ x → x < i → le (d x) (d m)) (h2 : ∀ x, i ≤ x → x < m → le (d m) (d x)) : Up le (shD d i m) a (m + 1) := by
  intro x y hx hxy hy
  unfold shD
  by_cases e1 : y < i
  · rw [if_neg (by omega), if_neg (by omega), if_neg (by omega), if_neg (by omega)]
    exact hu _ _ (by omega) (by omega) (by omega)
  · by_cases e2 : y = i
    · rw [if_neg (show ¬ (i < y ∧ y ≤ m) by omega), if_pos e2, if_neg (by omega)]
      by_cases e3 : x = i
      · rw [if_pos e3]; exact T.refl _
      · rw [if_neg e3]; exact h1 _ (by omega) (by omega)
    · rw [if_pos (show i < y ∧ y ≤ m by omega)]
      by_cases e3 : i < x
      · rw [if_pos (by omega)]; exact hu _ _ (by omega) (by omega) (by omega)
      · rw [if_neg (by omega)]
        by_cases e4 : x = i
        · rw [if_pos e4]; exact h2 _ (by omega) (by omega)
        · rw [if_neg e4]; exact hu _ _ (by omega) (by omega) (by omega)

set_option maxRecDepth 100000 in
theorem rot_mv (d : Nat → Nat) (a m b : Nat) (h1 : a ≤ m) (h2 : m ≤ b) : Mv a b d (rot d a m b) := by
  refine ⟨fun x => if a ≤ x ∧ x < a + (b - m) then x + (m - a) else if a + (b - m) ≤ x ∧ x < b then x - (b - m) else x, fun x => if a ≤ x ∧ x < m then x + (b - m) else if m ≤ x ∧ x < b then x - (m - a) else x, ?_, ?_, ?_, ?_⟩
  · intro x
    simp only
    repeat' split
    all_goals omega
  · intro x
    simp only
    repeat' split
    all_goals omega
  · intro x hx
    simp only
    rw [if_neg (by omega), if_neg (by omega)]
  · intro x
    simp only [rot]
    repeat' split
    all_goals first | rfl | omega

/-! ### Merging -/
set_option maxRecDepth 100000 in
/-- What a merge is asked: both parts rise behind the turn, and all on the left are below all on the right. -/
theorem merge_turn {le : Nat → Nat → Prop} (T : Tot le) {d : Nat → Nat} {a m b mid s e : Nat} (hu : Up le d a m) (hv : Up le d m b) (has : a ≤ s) (hsm : s ≤ m) (hme : m ≤ e) (heb : e ≤ b) (hmid : mid + m = s + e)
    (h1 : a < s → e < b → le (d (s - 1)) (d e)) (h2 : s < m → m < e → le (d (e - 1)) (d s)) :
    Up le (rot d s m e) a s ∧ Up le (rot d s m e) s mid ∧ Up le (rot d s m e) mid e ∧ Up le (rot d s m e) e b ∧ ∀ x y, a ≤ x → x < mid → mid ≤ y → y < b → le (rot d s m e x) (rot d s m e y) := by
  have hl : ∀ x, x < s → rot d s m e x = d x := fun x hx => by unfold rot; rw [if_neg (by omega), if_neg (by omega)]
  have hr : ∀ x, e ≤ x → rot d s m e x = d x := fun x hx => by unfold rot; rw [if_neg (by omega), if_neg (by omega)]
  have hp : ∀ x, s ≤ x → x < mid → rot d s m e x = d (x + (m - s)) := fun x h h' => by unfold rot; rw [if_pos (by omega)]
  have hq : ∀ x, mid ≤ x → x < e → rot d s m e x = d (x - (e - m)) := fun x h h' => by unfold rot; rw [if_neg (by omega), if_pos (by omega)]
  refine ⟨?_, ?_, ?_, ?_, ?_⟩
  · intro x y hx hxy hy
    rw [hl x (by omega), hl y hy]
    exact hu _ _ hx hxy (by omega)
  · intro x y hx hxy hy
    rw [hp x hx (by omega), hp y (by omega) hy]
    exact hv _ _ (by omega) (by omega) (by omega)
  · intro x y hx hxy hy
    rw [hq x hx (by omega), hq y (by omega) hy]
    exact hu _ _ (by omega) (by omega) (by omega)
  · intro x y hx hxy hy
    rw [hr x hx, hr y (by omega)]
    exact hv _ _ (by omega) hxy hy
  · intro x y hx hxm hmy hy
    by_cases e1 : x < s
    · rw [hl x e1]
      by_cases e2 : y < e
      · rw [hq y hmy e2]
        exact hu _ _ hx (by omega) (by omega)
      · rw [hr y (by omega)]
        exact T.trans _ _ _ (hu x (s - 1) hx (by omega) (by omega)) (T.trans _ _ _ (h1 (by omega) (by omega)) (hv e y (by omega) (by omega) hy))
    · rw [hp x (by omega) hxm]
      by_cases e2 : y < e
      · rw [hq y hmy e2]
        exact T.trans _ _ _ (hv (x + (m - s)) (e - 1) (by omega) (by omega) (by omega)) (T.trans _ _ _ (h2 (by omega) (by omega)) (hu s (y - (e - m)) (by omega) (by omega) (by omega)))
      · rw [hr y (by omega)]
        exact hv _ _ (by omega) (by omega) hy
set_option maxRecDepth 100000 in
/-- Both halves are set right. -/
theorem merge_both {le : Nat → Nat → Prop} {d d1 d2 : Nat → Nat} {a mid b : Nat} (hab : ∀ x y, a ≤ x → x < mid → mid ≤ y → y < b → le (d x) (d y)) (m1 : Mv a mid d d1) (u1 : Up le d1 a mid) (m2 : Mv mid b d1 d2) (u2 : Up le d2 mid b) : Up le d2 a b := by
  intro x y hx hxy hy
  by_cases e1 : y < mid
  · rw [m2.out (.inl (by omega)), m2.out (.inl (by omega))]
    exact u1 _ _ hx hxy e1
  · by_cases e2 : x < mid
    · rw [m2.out (x := x) (.inl e2)]
      obtain ⟨x', h1, h2, e⟩ := m1.mem hx e2
      obtain ⟨y', h3, h4, e'⟩ := m2.mem (x := y) (by omega) hy
      rw [e, e', m1.out (x := y') (.inr h3)]
      exact hab _ _ h1 h2 h3 h4
    · exact u2 _ _ (by omega) hxy hy
set_option maxRecDepth 100000 in
theorem up_join {le : Nat → Nat → Prop} {d : Nat → Nat} {a s b : Nat} (h1 : Up le d a s) (h2 : Up le d s b) (h : a = s ∨ s = b) : Up le d a b := by
  rcases h with rfl | rfl
  · exact h2
  · exact h1

/-! ### Blocks -/
/-- Each block of s rises. -/
def Bs (le : Nat → Nat → Prop) (d : Nat → Nat) (n s : Nat) : Prop := ∀ k, Up le d (k * s) (min (k * s + s) n)
set_option maxRecDepth 100000 in
theorem Bs.whole {le : Nat → Nat → Prop} {d : Nat → Nat} {n s : Nat} (h : Bs le d n s) (hs : n ≤ s) : Up le d 0 n := by
  have := h 0
  rw [Nat.zero_mul, Nat.zero_add, Nat.min_eq_right hs] at this
  exact this
end Srt
end Go.Proofs.Ytmcfokeibecopaa

namespace Go.Proofs.Ytmcfokeibecopaa
open Go.RowKit
open Od

/-- A pointer to the k-th term. -/
@[reducible] def ptr (b o k : Nat) : Value := .pointer (some ⟨b, o + k * 7, none⟩)
/-- A row of pointers to terms: at i stands the one to the d i-th. -/
structure SoI (w : World) (b o m g n : Nat) (d : Nat → Nat) (W : World) : Prop where
  be : Below w.heap.size w W
  gb : w.heap.size ≤ g
  row : ∃ cs : Array Value, W.heap[g]? = some (.cells cs 43 (0, 0)) ∧ cs.size = n ∧ ∀ i, i < n → cs[i]? = some (ptr b o (d i))
  dm : ∀ i, i < n → d i < m
section
variable {w : World} {b o m g n : Nat} {d : Nat → Nat} {W W' : World}
set_option maxRecDepth 100000 in
theorem SoI.lt (h : SoI w b o m g n d W) : g < W.heap.size := by
  obtain ⟨cs, h1, _⟩ := h.row
  exact (Array.getElem?_eq_some_iff.1 h1).1
set_option maxRecDepth 100000 in
theorem SoI.below (h : SoI w b o m g n d W) (hb : Below W.heap.size W W') : SoI w b o m g n d W' := by
  obtain ⟨cs, h1, h2, h3⟩ := h.row
  exact ⟨h.be.trans (hb.mono h.be.size), h.gb, ⟨cs, (hb.block g h.lt).trans h1, h2, h3⟩, h.dm⟩
set_option maxRecDepth 100000 in
theorem SoI.drew (h : SoI w b o m g n d W) : SoI w b o m g n d W.drew := h.below (Below.refl _ _).drew
set_option maxRecDepth 100000 in
theorem SoI.cell (h : SoI w b o m g n d W) {i : Nat} (hi : i < n) : W.cell? ⟨g, i, none⟩ = some (ptr b o (d i)) := by
  obtain ⟨cs, h1, h2, h3⟩ := h.row
  rw [cell_of_row W g i cs _ (0, 0) h1]
  exact h3 i hi
set_option maxRecDepth 100000 in
theorem SoI.frozen (h : SoI w b o m g n d W) (i : Nat) : W.frozen? ⟨g, i, none⟩ = false := by
  obtain ⟨cs, h1, _⟩ := h.row
  simp [World.frozen?, h1]
set_option maxRecDepth 100000 in
theorem SoI.swap (h : SoI w b o m g n d W) {i j : Nat} (hi : i < n) (hj : j < n) : SoI w b o m g n (Srt.swp d i j) ((W.setCell ⟨g, i, none⟩ (ptr b o (d j))).setCell ⟨g, j, none⟩ (ptr b o (d i))) := by
  obtain ⟨cs, h1, h2, h3⟩ := h.row
  refine ⟨(h.be.setCell (p := ⟨g, i, none⟩) h.gb _).setCell (p := ⟨g, j, none⟩) h.gb _, h.gb, ⟨(cs.setIfInBounds i (ptr b o (d j))).setIfInBounds j (ptr b o (d i)), ?_, by simp [h2], fun x hx => ?_⟩, fun x hx => ?_⟩
  · simp [World.setCell, Array.getElem?_modify, h1]
  · simp only [Array.getElem?_setIfInBounds, Array.size_setIfInBounds, h2]
    unfold Srt.swp
    by_cases e1 : j = x
    · subst e1
      rw [if_pos rfl, if_pos hj]
      by_cases e2 : j = i
      · subst e2; rw [if_pos rfl]
      · rw [if_neg e2, if_pos rfl]
    · rw [if_neg e1]
      by_cases e2 : i = x
      · subst e2
        rw [if_pos rfl, if_pos hi, if_pos rfl]
      · rw [if_neg e2, if_neg (fun e => e2 e.symm), if_neg (fun e => e1 e.symm)]
        exact h3 x hx
  · unfold Srt.swp
    repeat' split
    · exact h.dm j hj
    · exact h.dm i hi
    · exact h.dm x hx
end

set_option maxRecDepth 100000 in
set_option maxRecDepth 100000 in
set_option maxHeartbeats 4000000 in
theorem swapRange_any (w : World) (b o m g n : Nat) (hn : n ≤ 100000) (F : Value) (p q k : Nat) (hpq : p + k ≤ q) (hq : q + k ≤ n) (d : Nat → Nat) (W : World) (h : SoI w b o m g n d W) :
    Calls Try.prog 94 #[.slice (some ⟨g, 0, none⟩) n n, .int .i64 (p : Int), .int .i64 (q : Int), .int .i64 (k : Int), F] W fun e W' => e = .returned (.tuple #[]) ∧ SoI w b o m g n (Srt.swR d p q k) W' := by
  go_enter Try.func94, Try.ntmps94
  go_wp2_with fail
  go_loopw [10] (fun i w' => ∃ j : Nat, j ≤ k ∧ i = .int .i64 (j : Int) ∧ SoI w b o m g n (Srt.swR d p q j) w') (fun i _ => k - (intOf i).toNat)
  case atStart => exact ⟨0, Nat.zero_le _, rfl, by rw [Srt.swR_zero]; exact h⟩
  case round =>
    clear h
    obtain ⟨j, hj, rfl, J⟩ := hrel
    by_cases hjk : j < k
    · have hd1 : decide ((j : Int) < (k : Int)) = true := decide_eq_true (by omega)
      have c1 := J.cell (i := p + j) (by omega)
      have c2 := J.cell (i := q + j) (by omega)
      have f1 := J.frozen (p + j)
      have f2 := J.frozen (q + j)
      have J2 := Lib.hid (J.swap (i := p + j) (j := q + j) (by omega) (by omega))
      rw [Srt.swR_succ d p q j (by omega)] at J2
      have e1 : IntKind.i64.wrap ((p : Int) + (j : Int)) = (p : Int) + (j : Int) := IntWalk.i64_in _ (by omega)
      have e2 : IntKind.i64.wrap ((q : Int) + (j : Int)) = (q : Int) + (j : Int) := IntWalk.i64_in _ (by omega)
      have e3 : (0 : Int) ≤ (p : Int) + (j : Int) := by omega
      have e4 : (0 : Int) ≤ (q : Int) + (j : Int) := by omega
      have e5 : ((p : Int) + (j : Int)).toNat = p + j := by omega
      have e6 : ((q : Int) + (j : Int)).toNat = q + j := by omega
      have e7 : (p : Int) + (j : Int) < (n : Int) := by omega
      have e8 : (q : Int) + (j : Int) < (n : Int) := by omega
      have hne : p + j ≠ q + j := by omega
      clear J
      go_wp2_with fail
      go_region
      all_goals
        go_wp2_with fail
        exact ⟨⟨j + 1, by omega, by go_num, by exact J2.out.drew⟩, by simp [intOf]; omega⟩
    · have hd1 : decide ((j : Int) < (k : Int)) = false := decide_eq_false (by omega)
      have e : j = k := by omega
      subst e
      go_wp2
      go_end0
      exact ⟨rfl, J⟩

set_option maxRecDepth 100000 in
set_option maxRecDepth 100000 in
set_option maxHeartbeats 4000000 in
theorem rotate_any (w : World) (b o m g n : Nat) (hn : n ≤ 100000) (F : Value) (p q r : Nat) (hpq : p < q) (hqr : q < r) (hr : r ≤ n) (d : Nat → Nat) (W : World) (h : SoI w b o m g n d W) :
    Calls Try.prog 87 #[.slice (some ⟨g, 0, none⟩) n n, .int .i64 (p : Int), .int .i64 (q : Int), .int .i64 (r : Int), F] W fun e W' => e = .returned (.tuple #[]) ∧ SoI w b o m g n (Srt.rot d p q r) W' := by
  go_enter Try.func87, Try.ntmps87
  go_wp2_with fail
  go_loopw [10, 11] (fun x y w' => ∃ (i j : Nat) (dc : Nat → Nat), 1 ≤ i ∧ i ≤ q ∧ 1 ≤ j ∧ q + j ≤ n ∧ x = .int .i64 (i : Int) ∧ y = .int .i64 (j : Int) ∧ Hid (Srt.rot dc (q - i) q (q + j) = Srt.rot d p q r) ∧ SoI w b o m g n dc w') (fun x y _ => (intOf x).toNat + (intOf y).toNat)
  case atStart => exact ⟨q - p, r - q, d, by omega, by omega, by omega, by omega, by go_num, by go_num, Lib.hid (by rw [show q - (q - p) = p by omega, show q + (r - q) = r by omega]), h⟩
  case round =>
    clear h
    obtain ⟨i, j, dc, hi, hiq, hj, hjn, rfl, rfl, hrot, J⟩ := hrel
    have ea : (q : Int) - (i : Int) = ((q - i : Nat) : Int) := by omega
    have hcase : i = j ∨ j < i ∨ i < j := by omega
    rcases hcase with hij | hij | hij
    · subst hij
      have hd1 : ((i : Int) != (i : Int)) = false := by simp
      have HE := Lib.hid ea
      clear ea
      go_wp2_with fail
      rw [HE.out]
      refine (swapRange_any w b o m g n hn F (q - i) q i (by omega) (by omega) dc wr J).mono ?_
      rintro e v ⟨rfl, J2⟩
      go_wp2
      go_end0
      refine ⟨rfl, ?_⟩
      rw [← hrot.out, ← Srt.rot_same dc q i hiq]
      exact J2
    · have hd1 : ((i : Int) != (j : Int)) = true := by rw [bne_iff_ne]; omega
      have hd2 : decide ((j : Int) < (i : Int)) = true := decide_eq_true (by omega)
      have HE := Lib.hid ea
      clear ea
      go_wp2_with fail
      rw [HE.out]
      refine (swapRange_any w b o m g n hn F (q - i) q j (by omega) (by omega) dc wr J).mono ?_
      rintro e v ⟨rfl, J2⟩
      go_wp2_with fail
      exact ⟨⟨i - j, j, _, by omega, by omega, hj, hjn, by go_num, rfl, Lib.hid (by rw [Srt.rot_more dc q i j hij hiq]; exact hrot.out), J2⟩, by simp [intOf]; omega⟩
    · have hd1 : ((i : Int) != (j : Int)) = true := by rw [bne_iff_ne]; omega
      have hd2 : decide ((j : Int) < (i : Int)) = false := decide_eq_false (by omega)
      have HE := Lib.hid ea
      have HE2 := Lib.hid (show (q : Int) + (j : Int) - (i : Int) = ((q + j - i : Nat) : Int) by omega)
      clear ea
      go_wp2_with fail
      rw [HE.out, HE2.out]
      refine (swapRange_any w b o m g n hn F (q - i) (q + j - i) i (by omega) (by omega) dc wr J).mono ?_
      rintro e v ⟨rfl, J2⟩
      go_wp2_with fail
      exact ⟨⟨i, j - i, _, hi, hiq, by omega, by omega, rfl, by go_num, Lib.hid (by rw [Srt.rot_less dc q i j hij hiq]; exact hrot.out), J2⟩, by simp [intOf]; omega⟩
end Go.Proofs.Ytmcfokeibecopaa

namespace Go.Proofs.Ytmcfokeibecopaa
open Go.RowKit
open Od

/-- The k-th term, and how two stand. -/
def at' (ts : List Tm) (k : Nat) : Tm := ts.getD k default
def leI (ts : List Tm) (x y : Nat) : Prop := Tm.cmpT (at' ts x) (at' ts y) ≤ 0
set_option maxRecDepth 100000 in
theorem leI_tot (ts : List Tm) : Srt.Tot (leI ts) where
  total x y := by
    have := Tm.cmpT_anti (at' ts x) (at' ts y)
    unfold leI
    omega
  trans x y z := (Tm.cmpT_alo (at' ts x) (at' ts y) (at' ts z)).le
set_option maxRecDepth 100000 in
theorem lt_leI {ts : List Tm} {x y : Nat} : Tm.cmpT (at' ts x) (at' ts y) < 0 ↔ ¬ leI ts y x := by
  have := Tm.cmpT_anti (at' ts x) (at' ts y)
  unfold leI
  omega
/-- The terms that are sorted. -/
structure SoT (w : World) (b o m : Nat) (ts : List Tm) : Prop where
  tv : ∃ c, TVs w (some ⟨b, o, none⟩) m c ts
  form : ∀ t ∈ ts, t.formB = true
set_option maxRecDepth 100000 in
theorem so_cmp {w : World} {b o m g n : Nat} {ts : List Tm} {d : Nat → Nat} {W : World} (S : SoT w b o m ts) (J : SoI w b o m g n d W) {x y : Nat} (hx : x < n) (hy : y < n) :
    Calls Try.prog 20 #[ptr b o (d x), ptr b o (d y)] W (IntPost W (Tm.cmpT (at' ts (d x)) (at' ts (d y)))) := by
  obtain ⟨c, hts⟩ := S.tv
  obtain ⟨b1, o1, r1, t1, e1, _, h1, g1, v1⟩ := (hts.below J.be).get (d x) (J.dm x hx)
  obtain ⟨b2, o2, r2, t2, e2, _, h2, g2, v2⟩ := (hts.below J.be).get (d y) (J.dm y hy)
  cases e1
  cases e2
  have q1 : at' ts (d x) = t1 := by unfold at'; rw [List.getD_eq_getElem?_getD, g1]; rfl
  have q2 : at' ts (d y) = t2 := by unfold at'; rw [List.getD_eq_getElem?_getD, g2]; rfl
  rw [q1, q2]
  exact compare_any t1 W b (o + d x * 7) r1 b (o + d y * 7) r2 t2 ⟨h1, h2, v1, v2⟩ (S.form t1 (List.mem_of_getElem? g1)) (S.form t2 (List.mem_of_getElem? g2))

set_option maxRecDepth 100000 in
set_option maxRecDepth 100000 in
set_option maxHeartbeats 4000000 in
theorem insertion_any (w : World) (b o m g n : Nat) (hn : n ≤ 100000) (ts : List Tm) (S : SoT w b o m ts) (p q : Nat) (hpq : p ≤ q) (hq : q ≤ n) (d : Nat → Nat) (W : World) (h : SoI w b o m g n d W) :
    Calls Try.prog 72 #[.slice (some ⟨g, 0, none⟩) n n, .int .i64 (p : Int), .int .i64 (q : Int), (.func (.func 20) #[] #[])] W fun e W' => e = .returned (.tuple #[]) ∧ ∃ d', SoI w b o m g n d' W' ∧ Srt.Mv p q d d' ∧ Srt.Up (leI ts) d' p q := by
  have T := Lib.hid (leI_tot ts)
  go_enter Try.func72, Try.ntmps72
  go_wp2_with fail
  go_loopw [8] (fun x w' => ∃ (i : Nat) (dc : Nat → Nat), p + 1 ≤ i ∧ i ≤ q + 1 ∧ x = .int .i64 (i : Int) ∧ Hid (Srt.Mv p q d dc) ∧ Hid (Srt.Up (leI ts) dc p i) ∧ SoI w b o m g n dc w') (fun x _ => q + 1 - (intOf x).toNat)
  case atStart => exact ⟨p + 1, d, Nat.le_refl _, by omega, by go_num, Lib.hid (Srt.Mv.refl _ _ _), Lib.hid (fun x y h1 h2 h3 => by rw [show y = x by omega]; exact T.out.refl _), h⟩
  case round =>
    clear h
    obtain ⟨i, dc, hi1, hi2, rfl, hmv, hup, J⟩ := hrel
    by_cases hiq : i < q
    · have hd1 : decide ((i : Int) < (q : Int)) = true := decide_eq_true (by omega)
      go_wp2_with fail
      go_loopw [9] (fun y w' => ∃ (j : Nat) (de : Nat → Nat), p ≤ j ∧ j ≤ i ∧ y = .int .i64 (j : Int) ∧ Hid (Srt.Mv p q dc de) ∧ Hid (Srt.Ins (leI ts) de p i j) ∧ SoI w b o m g n de w') (fun y _ => (intOf y).toNat)
      case atStart => exact ⟨i, dc, by omega, Nat.le_refl _, rfl, Lib.hid (Srt.Mv.refl _ _ _), Lib.hid (Srt.Ins.start hup.out), J⟩
      case round =>
        clear J
        obtain ⟨j, de, hj1, hj2, rfl, hmv2, hins, J⟩ := hrel
        by_cases hjp : p < j
        · have hd2 : decide ((p : Int) < (j : Int)) = true := decide_eq_true (by omega)
          have c1 := J.cell (i := j) (by omega)
          have c2 := J.cell (i := j - 1) (by omega)
          have e1 : IntKind.i64.wrap ((j : Int) - 1) = (j : Int) - 1 := IntWalk.i64_in _ (by omega)
          have e2 : (0 : Int) ≤ (j : Int) - 1 := by omega
          have e3 : ((j : Int) - 1).toNat = j - 1 := by omega
          have e4 : (j : Int) - 1 < (n : Int) := by omega
          have e5 : (j : Int) < (n : Int) := by omega
          have e6 : (1 : Int) ≤ (j : Int) := by omega
          have e7 : (j : Int) ≤ (n : Int) := by omega
          have e8 : (j : Int) < (n : Int) + 1 := by omega
          have e9 : 1 ≤ j := by omega
          have e10 : j ≤ n := by omega
          have e11 : j < n + 1 := by omega
          have e12 : (j : Int) - 1 < (n : Int) := by omega
          have HC := Lib.hid (so_cmp S J.drew (x := j) (y := j - 1) (by omega) (by omega))
          have HJ := Lib.hid J.drew
          clear J
          obtain ⟨C, hC⟩ : ∃ C, C = Tm.cmpT (at' ts (de j)) (at' ts (de (j - 1))) := ⟨_, rfl⟩
          rw [← hC] at HC
          have HCC := Lib.hid hC
          clear hC
          go_wp2_with fail
          go_region_held3 (fun w' => w'.cell? ⟨g, j, none⟩ = some (ptr b o (de j)) ∧ w'.cell? ⟨g, j - 1, none⟩ = some (ptr b o (de (j - 1))))
            (first | exact ⟨c1, c2⟩ | exact KS.out)
            (first
              | (go_at_call 20; refine HC.out.mono ?_; rintro e v ⟨rfl, hv⟩; have J2 := Lib.hid (HJ.out.below hv); have KS := Lib.hid (And.intro (J2.out.cell (i := j) (by omega)) (J2.out.cell (i := j - 1) (by omega)))))
          clear c1 c2 KS HC HJ hv
          by_cases hc : C < 0
          · have hd3 : decide (C < 0) = true := decide_eq_true hc
            have hnle : ¬ leI ts (de (j - 1)) (de j) := lt_leI.1 (by rw [← HCC.out]; exact hc)
            have hst := Lib.hid (hins.out.step T.out hjp hnle hj2)
            have hmv3 := Lib.hid (hmv2.out.trans (Srt.swp_mv de (a := p) (b := q) (i := j) (j := j - 1) (by omega) (by omega) (by omega) (by omega)))
            have J3 := Lib.hid (J2.out.swap (i := j) (j := j - 1) (by omega) (by omega))
            have c1 := J2.out.cell (i := j) (by omega)
            have c2 := J2.out.cell (i := j - 1) (by omega)
            have f1 := J2.out.frozen j
            have f2 := J2.out.frozen (j - 1)
            have hne : j ≠ j - 1 := by omega
            clear hnle
            go_wp2_with fail
            go_region
            all_goals
              clear e1 e2 e3 e4 e5 e7 e8 e10 e11 e12 c1 c2 f1 f2 hne J2
              have J4 := J3.out.drew
              generalize ((v.setCell ⟨g, j, none⟩ (ptr b o (de (j - 1)))).setCell ⟨g, j - 1, none⟩ (ptr b o (de j))).drew = V4 at *
              go_wp2_with fail
              exact ⟨⟨j - 1, _, by omega, by omega, by go_num, hmv3, hst, J4⟩, by simp [intOf]; omega⟩
          · have hd3 : decide (C < 0) = false := decide_eq_false hc
            have hle : leI ts (de (j - 1)) (de j) := Classical.byContradiction fun hn => hc (by rw [HCC.out]; exact lt_leI.2 hn)
            have hup2 := Lib.hid (hins.out.done T.out (.inr hle) (by omega))
            have hmv3 := Lib.hid (hmv.out.trans hmv2.out)
            clear hle
            have hc0 : 0 ≤ C := by omega
            go_wp2_with fail
            exact ⟨⟨i + 1, de, by omega, by omega, by go_num, hmv3, hup2, J2.out⟩, by simp [intOf]; omega⟩
        · have hd2 : decide ((p : Int) < (j : Int)) = false := decide_eq_false (by omega)
          have hup2 := Lib.hid (hins.out.done T.out (.inl (by omega)) (by omega))
          have hmv3 := Lib.hid (hmv.out.trans hmv2.out)
          go_wp2_with fail
          go_quiet (fail)
          have J2 : SoI w b o m g n de (wr.drewN nq) := J.below ((Below.refl _ _).drewN' _)
          go_wp2_with fail
          exact ⟨⟨i + 1, de, by omega, by omega, by go_num, hmv3, hup2, J2⟩, by simp [intOf]; omega⟩
    · have hd1 : decide ((i : Int) < (q : Int)) = false := decide_eq_false (by omega)
      go_wp2
      go_end0
      refine ⟨rfl, dc, J, hmv.out, fun x y h1 h2 h3 => hup.out x y h1 h2 (by omega)⟩
end Go.Proofs.Ytmcfokeibecopaa

namespace Go.Proofs.Ytmcfokeibecopaa
open Go.RowKit
open Od

/-- What a merge leaves. -/
def SmP (w : World) (b o m g n : Nat) (ts : List Tm) (p r : Nat) (d : Nat → Nat) (e : Ending) (W' : World) : Prop :=
  e = .returned (.tuple #[]) ∧ ∃ d', SoI w b o m g n d' W' ∧ Srt.Mv p r d d' ∧ Srt.Up (leI ts) d' p r

set_option maxRecDepth 100000 in
set_option maxRecDepth 100000 in
set_option maxHeartbeats 4000000 in
theorem sym_one (w : World) (b o m g n : Nat) (hn : n ≤ 100000) (ts : List Tm) (S : SoT w b o m ts) (p q r : Nat) (hpq : q = p + 1) (hqr : q < r) (hr : r ≤ n) (d : Nat → Nat) (W : World) (h : SoI w b o m g n d W) (hu : Srt.Up (leI ts) d q r) :
    Calls Try.prog 73 #[.slice (some ⟨g, 0, none⟩) n n, .int .i64 (p : Int), .int .i64 (q : Int), .int .i64 (r : Int), (.func (.func 20) #[] #[])] W (SmP w b o m g n ts p r d) := by
  have T := Lib.hid (leI_tot ts)
  have HU := Lib.hid hu
  clear hu
  have e0 : (q : Int) - (p : Int) = 1 := by omega
  have hpn : (p : Int) < (n : Int) := by omega
  have HP := Lib.hid hpq
  clear hpq
  go_enter Try.func73, Try.ntmps73
  go_wp2_with fail
  go_loopw [10, 11] (fun x y w' => ∃ i j : Nat, q ≤ i ∧ i ≤ j ∧ j ≤ r ∧ x = .int .i64 (i : Int) ∧ y = .int .i64 (j : Int) ∧ Hid (∀ x, q ≤ x → x < i → leI ts (d x) (d p)) ∧ Hid (∀ x, j ≤ x → x < r → leI ts (d p) (d x)) ∧ SoI w b o m g n d w') (fun x y _ => (intOf y).toNat - (intOf x).toNat)
  case atStart => exact ⟨q, r, Nat.le_refl _, by omega, Nat.le_refl _, rfl, rfl, Lib.hid (fun x h1 h2 => absurd h1 (by omega)), Lib.hid (fun x h1 h2 => absurd h1 (by omega)), h⟩
  case round =>
    clear h
    obtain ⟨i, j, hi, hij, hj, rfl, rfl, h1, h2, J⟩ := hrel
    by_cases hlt : i < j
    · have hd1 : decide ((i : Int) < (j : Int)) = true := decide_eq_true (by omega)
      go_upto_region 5 with fail
      obtain ⟨c, hc⟩ : ∃ c : Nat, ((i : Int) + (j : Int)) / 2 = (c : Int) := ⟨(i + j) / 2, by omega⟩
      have hic : i ≤ c := by omega
      have hcj : c < j := by omega
      rw [hc]
      have HE := Lib.hid hc
      clear hc
      have c1 := J.cell (i := c) (by omega)
      have c2 := J.cell (i := p) (by omega)
      have e5 : (c : Int) < (n : Int) := by omega
      have HC := Lib.hid (so_cmp S J.drew (x := c) (y := p) (by omega) (by omega))
      have HJ := Lib.hid J.drew
      clear J
      obtain ⟨C, hC⟩ : ∃ C, C = Tm.cmpT (at' ts (d c)) (at' ts (d p)) := ⟨_, rfl⟩
      rw [← hC] at HC
      have HCC := Lib.hid hC
      clear hC
      go_region_held3 (fun w' => w'.cell? ⟨g, c, none⟩ = some (ptr b o (d c)) ∧ w'.cell? ⟨g, p, none⟩ = some (ptr b o (d p)))
        (first | exact ⟨c1, c2⟩ | exact KS.out)
        (first
          | (go_at_call 20; refine HC.out.mono ?_; rintro e v ⟨rfl, hv⟩; have J2 := Lib.hid (HJ.out.below hv); have KS := Lib.hid (And.intro (J2.out.cell (i := c) (by omega)) (J2.out.cell (i := p) (by omega)))))
      clear c1 c2 KS HC HJ hv
      by_cases hc : C < 0
      · have hnle : ¬ leI ts (d p) (d c) := lt_leI.1 (by rw [← HCC.out]; exact hc)
        have hs := Lib.hid (show ∀ x, q ≤ x → x < c + 1 → leI ts (d x) (d p) from fun x a1 a2 => T.out.trans _ _ _ (HU.out x c a1 (by omega) (by omega)) (T.out.of_not hnle))
        clear hnle
        go_wp2_with fail
        exact ⟨⟨c + 1, j, by omega, by omega, hj, by go_num, rfl, hs, h2, J2.out⟩, by simp [intOf]; omega⟩
      · have hc0 : 0 ≤ C := by omega
        have hle : leI ts (d p) (d c) := Classical.byContradiction fun hn => hc (by rw [HCC.out]; exact lt_leI.2 hn)
        have hs := Lib.hid (show ∀ x, c ≤ x → x < r → leI ts (d p) (d x) from fun x a1 a2 => T.out.trans _ _ _ hle (HU.out c x (by omega) a1 a2))
        clear hle
        go_wp2_with fail
        exact ⟨⟨i, c, hi, hic, by omega, rfl, rfl, h1, hs, J2.out⟩, by simp [intOf]; omega⟩
    · have hd1 : decide ((i : Int) < (j : Int)) = false := decide_eq_false (by omega)
      have e : i = j := by omega
      subst e
      have hres := Lib.hid (show Srt.Up (leI ts) (Srt.shU d p (i - 1)) p r from Srt.shU_up T.out (by have := HP.out; omega) hj (by rw [← HP.out]; exact HU.out) (fun x a1 a2 => h1.out x (by have := HP.out; omega) a2) h2.out)
      have hmv := Lib.hid (Srt.shU_mv d p r (i - 1) (by have := HP.out; omega) (by omega))
      have hp1 : p + 1 ≤ i := by have := HP.out; omega
      clear h1 h2
      go_wp2_with fail
      go_loopw [13] (fun x w' => ∃ k : Nat, p ≤ k ∧ k ≤ i - 1 ∧ x = .int .i64 (k : Int) ∧ SoI w b o m g n (Srt.shU d p k) w') (fun x _ => i - (intOf x).toNat)
      case atStart => exact ⟨p, Nat.le_refl _, by omega, rfl, by rw [Srt.shU_zero]; exact J⟩
      case round =>
        clear J
        obtain ⟨k, hk1, hk2, rfl, J⟩ := hrel
        by_cases hk : k < i - 1
        · have hd2 : (k : Int) < (i : Int) - 1 := by omega
          have c1 := J.cell (i := k) (by omega)
          have c2 := J.cell (i := k + 1) (by omega)
          have f1 := J.frozen k
          have f2 := J.frozen (k + 1)
          have hne : k ≠ k + 1 := by omega
          have J2 := Lib.hid (J.swap (i := k) (j := k + 1) (by omega) (by omega))
          rw [Srt.shU_succ d p k hk1] at J2
          have e1 : IntKind.i64.wrap ((k : Int) + 1) = (k : Int) + 1 := IntWalk.i64_in _ (by omega)
          have e2 : (0 : Int) ≤ (k : Int) + 1 := by omega
          have e3 : ((k : Int) + 1).toNat = k + 1 := by omega
          have e4 : (k : Int) + 1 < (n : Int) := by omega
          have e5 : (k : Int) < (n : Int) := by omega
          clear J
          go_wp2_with fail
          go_region
          all_goals
            clear e1 e2 e3 e4 e5 c1 c2 f1 f2 hne hd2
            have J4 := J2.out.drew
            generalize ((wr.setCell ⟨g, k, none⟩ (ptr b o (Srt.shU d p k (k + 1)))).setCell ⟨g, k + 1, none⟩ (ptr b o (Srt.shU d p k k))).drew = V4 at *
            go_wp2_with fail
            exact ⟨⟨k + 1, by omega, by omega, by go_num, J4⟩, by simp [intOf]; omega⟩
        · have hd2 : ¬ (k : Int) < (i : Int) - 1 := by omega
          have e : k = i - 1 := by omega
          subst e
          go_wp2
          go_end0
          exact ⟨rfl, _, J, hmv.out, hres.out⟩

set_option maxRecDepth 100000 in
set_option maxRecDepth 100000 in
set_option maxHeartbeats 4000000 in
theorem sym_last (w : World) (b o m g n : Nat) (hn : n ≤ 100000) (ts : List Tm) (S : SoT w b o m ts) (p q r : Nat) (hpq : p + 1 < q) (hqr : r = q + 1) (hr : r ≤ n) (d : Nat → Nat) (W : World) (h : SoI w b o m g n d W) (hu : Srt.Up (leI ts) d p q) :
    Calls Try.prog 73 #[.slice (some ⟨g, 0, none⟩) n n, .int .i64 (p : Int), .int .i64 (q : Int), .int .i64 (r : Int), (.func (.func 20) #[] #[])] W (SmP w b o m g n ts p r d) := by
  have T := Lib.hid (leI_tot ts)
  have HU := Lib.hid hu
  clear hu
  have e0 : ((q : Int) - (p : Int) == 1) = false := beq_eq_false_iff_ne.2 (by omega)
  have e0' : ((r : Int) - (q : Int) == 1) = true := beq_iff_eq.2 (by omega)
  have hqn : (q : Int) < (n : Int) := by omega
  have HP := Lib.hid hqr
  have hq' : q < n := by omega
  clear hqr
  go_enter Try.func73, Try.ntmps73
  go_wp2_with fail
  go_loopw [14, 15] (fun x y w' => ∃ i j : Nat, p ≤ i ∧ i ≤ j ∧ j ≤ q ∧ x = .int .i64 (i : Int) ∧ y = .int .i64 (j : Int) ∧ Hid (∀ x, p ≤ x → x < i → leI ts (d x) (d q)) ∧ Hid (∀ x, j ≤ x → x < q → leI ts (d q) (d x)) ∧ SoI w b o m g n d w') (fun x y _ => (intOf y).toNat - (intOf x).toNat)
  case atStart => exact ⟨p, q, Nat.le_refl _, by omega, Nat.le_refl _, rfl, rfl, Lib.hid (fun x h1 h2 => absurd h1 (by omega)), Lib.hid (fun x h1 h2 => absurd h1 (by omega)), h⟩
  case round =>
    clear h
    obtain ⟨i, j, hi, hij, hj, rfl, rfl, h1, h2, J⟩ := hrel
    by_cases hlt : i < j
    · have hd1 : decide ((i : Int) < (j : Int)) = true := decide_eq_true (by omega)
      go_upto_region 17 with fail
      obtain ⟨c, hc⟩ : ∃ c : Nat, ((i : Int) + (j : Int)) / 2 = (c : Int) := ⟨(i + j) / 2, by omega⟩
      have hic : i ≤ c := by omega
      have hcj : c < j := by omega
      rw [hc]
      have HE := Lib.hid hc
      clear hc
      have c1 := J.cell (i := q) hq'
      have c2 := J.cell (i := c) (by omega)
      have e5 : (c : Int) < (n : Int) := by omega
      have HC := Lib.hid (so_cmp S J.drew (x := q) (y := c) hq' (by omega))
      have HJ := Lib.hid J.drew
      clear J
      obtain ⟨C, hC⟩ : ∃ C, C = Tm.cmpT (at' ts (d q)) (at' ts (d c)) := ⟨_, rfl⟩
      rw [← hC] at HC
      have HCC := Lib.hid hC
      clear hC
      go_region_held3 (fun w' => w'.cell? ⟨g, q, none⟩ = some (ptr b o (d q)) ∧ w'.cell? ⟨g, c, none⟩ = some (ptr b o (d c)))
        (first | exact ⟨c1, c2⟩ | exact KS.out)
        (first
          | (go_at_call 20; refine HC.out.mono ?_; rintro e v ⟨rfl, hv⟩; have J2 := Lib.hid (HJ.out.below hv); have KS := Lib.hid (And.intro (J2.out.cell (i := q) hq') (J2.out.cell (i := c) (by omega)))))
      clear c1 c2 KS HC HJ hv
      by_cases hc : C < 0
      · have hnle : ¬ leI ts (d c) (d q) := lt_leI.1 (by rw [← HCC.out]; exact hc)
        have hs := Lib.hid (show ∀ x, c ≤ x → x < q → leI ts (d q) (d x) from fun x a1 a2 => T.out.trans _ _ _ (T.out.of_not hnle) (HU.out c x (by omega) a1 a2))
        clear hnle
        rw [decide_eq_true hc, Bool.not_true]
        go_wp2_with fail
        exact ⟨⟨i, c, hi, hic, by omega, rfl, rfl, h1, hs, J2.out⟩, by simp [intOf]; omega⟩
      · have hc0 : 0 ≤ C := by omega
        have hle : leI ts (d c) (d q) := Classical.byContradiction fun hn => hc (by rw [HCC.out]; exact lt_leI.2 hn)
        have hs := Lib.hid (show ∀ x, p ≤ x → x < c + 1 → leI ts (d x) (d q) from fun x a1 a2 => T.out.trans _ _ _ (HU.out x c a1 (by omega) (by omega)) hle)
        clear hle
        rw [decide_eq_false hc, Bool.not_false]
        go_wp2_with fail
        exact ⟨⟨c + 1, j, by omega, by omega, hj, by go_num, rfl, hs, h2, J2.out⟩, by simp [intOf]; omega⟩
    · have hd1 : decide ((i : Int) < (j : Int)) = false := decide_eq_false (by omega)
      have e : i = j := by omega
      subst e
      have hres := Lib.hid (show Srt.Up (leI ts) (Srt.shD d i q) p r by rw [HP.out]; exact Srt.shD_up T.out hi hj HU.out h1.out h2.out)
      have hmv := Lib.hid (show Srt.Mv p r d (Srt.shD d i q) from Srt.shD_mv d p r i q hi hj (by have := HP.out; omega))
      clear h1 h2
      go_wp2_with fail
      go_loopw [17] (fun x w' => ∃ k : Nat, i ≤ k ∧ k ≤ q ∧ x = .int .i64 (k : Int) ∧ SoI w b o m g n (Srt.shD d k q) w') (fun x _ => (intOf x).toNat)
      case atStart => exact ⟨q, hj, Nat.le_refl _, rfl, by rw [Srt.shD_zero]; exact J⟩
      case round =>
        clear J
        obtain ⟨k, hk1, hk2, rfl, J⟩ := hrel
        by_cases hk : i < k
        · have hd2 : decide ((i : Int) < (k : Int)) = true := decide_eq_true (by omega)
          have c1 := J.cell (i := k) (by omega)
          have c2 := J.cell (i := k - 1) (by omega)
          have f1 := J.frozen k
          have f2 := J.frozen (k - 1)
          have hne : k ≠ k - 1 := by omega
          have J2 := Lib.hid (J.swap (i := k) (j := k - 1) (by omega) (by omega))
          have hsh := Srt.shD_succ d (k - 1) q (by omega)
          rw [show k - 1 + 1 = k by omega] at hsh
          rw [hsh] at J2
          have HS := Lib.hid hsh
          clear hsh
          have e1 : IntKind.i64.wrap ((k : Int) - 1) = (k : Int) - 1 := IntWalk.i64_in _ (by omega)
          have e2 : (0 : Int) ≤ (k : Int) - 1 := by omega
          have e3 : ((k : Int) - 1).toNat = k - 1 := by omega
          have e4 : (k : Int) - 1 < (n : Int) := by omega
          have e5 : (k : Int) < (n : Int) := by omega
          have e6 : (1 : Int) ≤ (k : Int) := by omega
          have e7 : (k : Int) ≤ (n : Int) := by omega
          have e8 : (k : Int) < (n : Int) + 1 := by omega
          have e9 : 1 ≤ k := by omega
          have e10 : k ≤ n := by omega
          have e11 : k < n + 1 := by omega
          clear J
          go_wp2_with fail
          go_region
          all_goals
            clear e1 e2 e3 e4 e5 e7 e8 e10 e11 c1 c2 f1 f2 hne hd2
            have J4 := J2.out.drew
            generalize ((wr.setCell ⟨g, k, none⟩ (ptr b o (Srt.shD d k q (k - 1)))).setCell ⟨g, k - 1, none⟩ (ptr b o (Srt.shD d k q k))).drew = V4 at *
            go_wp2_with fail
            exact ⟨⟨k - 1, by omega, by omega, by go_num, J4⟩, by simp [intOf]; omega⟩
        · have hd2 : decide ((i : Int) < (k : Int)) = false := decide_eq_false (by omega)
          have e : k = i := by omega
          subst e
          go_wp2
          go_end0
          exact ⟨rfl, _, J, hmv.out, hres.out⟩
end Go.Proofs.Ytmcfokeibecopaa
