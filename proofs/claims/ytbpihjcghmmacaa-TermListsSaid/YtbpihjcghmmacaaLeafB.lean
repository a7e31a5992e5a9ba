import Derived.Test.YtbpihjcghmmacaaLeafA
namespace Go.Proofs.Ytbpihjcghmmacaa
open Go.RowKit

theorem cmp_top {a b : List Nat} (ha : Lm.Small a) (hb : Lm.Small b) (k : Nat) (hl : a.length = b.length) (hk : k < a.length)
    (heq : ∀ j, k < j → j < a.length → Lm.lg a j = Lm.lg b j) (hne : Lm.lg a k ≠ Lm.lg b k) : Lm.cmpN (Lm.val a) (Lm.val b) = Lm.cmpN (Lm.lg a k) (Lm.lg b k) := by
  rcases Nat.lt_or_ge (Lm.lg a k) (Lm.lg b k) with h | h
  · have := Lm.val_lt_of_top ha hb k hl hk heq h
    unfold Lm.cmpN; rw [if_pos this, if_pos h]
  · have h : Lm.lg b k < Lm.lg a k := by omega
    have := Lm.val_lt_of_top hb ha k hl.symm (by omega) (fun j h1 h2 => (heq j h1 (by omega)).symm) h
    unfold Lm.cmpN; rw [if_neg (by omega), if_pos this, if_neg (by omega), if_pos h]
theorem cmp_len {a b : List Nat} (ha : Lm.Small a) (hb : Lm.Small b) (hca : Lm.Canon a) (hcb : Lm.Canon b) (hne : a.length ≠ b.length) :
    Lm.cmpN (Lm.val a) (Lm.val b) = Lm.cmpN a.length b.length := by
  rcases Nat.lt_or_ge a.length b.length with h | h
  · have := Lm.val_lt_of_length ha hb hcb h
    unfold Lm.cmpN; rw [if_pos this, if_pos h]
  · have h : b.length < a.length := by omega
    have := Lm.val_lt_of_length hb ha hca h
    unfold Lm.cmpN; rw [if_neg (by omega), if_pos this, if_neg (by omega), if_pos h]

end Go.Proofs.Ytbpihjcghmmacaa
