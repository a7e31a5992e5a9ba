/-
  THE CONTRACTS OF PACKAGE num, SAID OF INTEGERS.
-/
import Derived.Test.YtbpihjcghmmacaaNumE
namespace Go.Proofs.Ytbpihjcghmmacaa
open Go.RowKit

/-- The value '.agg #[.bool s, .slice A n c]' is the integer z. -/
def Nm (w : World) (s : Bool) (A : Option Addr) (n c : Nat) (z : Int) : Prop := Raw w A n c (Lm.digits z.natAbs) ∧ Hid (s = decide (z < 0))

section
variable {w w' : World} {s : Bool} {A : Option Addr} {n c : Nat} {z : Int}
theorem Nm.below (h : Nm w s A n c z) (hb : Below w.heap.size w w') : Nm w' s A n c z := ⟨h.1.below hb, h.2⟩
theorem Nm.of_own {base : Nat} (hs : Hid (s = decide (z < 0))) (ho : Own w base A n c (Lm.digits z.natAbs)) : Nm w s A n c z := ⟨⟨ho.lim, ho.cap.2⟩, hs⟩
theorem Nm.eqZ (h : Nm w s A n c z) : sgn s (Lm.val (Lm.digits z.natAbs)) = z := by
  rw [Lm.val_digits, h.2.out]
  unfold sgn
  by_cases hz : z < 0
  · simp [hz]; omega
  · simp [hz]; omega
theorem Nm.may (h : Nm w s A n c z) (ht : z.natAbs < Lm.top) : mayB s (Lm.digits z.natAbs) = true := by
  unfold mayB
  by_cases h0 : (Lm.digits z.natAbs).length = 0
  · rw [if_pos h0]
    have : z.natAbs = 0 := Lm.digits_eq_nil.1 (List.eq_nil_of_length_eq_zero h0)
    have hs := h.2.out
    have hz : z = 0 := by omega
    subst hz
    rw [hs]
    rfl
  · rw [if_neg h0]
    have h1 := (Lm.top_iff _).2 ht
    have h2 := Lm.canon_digits z.natAbs (by omega)
    simp [h1]
    exact h2
end
/-- Limbs that may be are an integer. -/
theorem nm_of_raw {w : World} {g : Bool} {A : Option Addr} {n c : Nat} {l : List Nat} (h : Raw w A n c l) (hm : mayB g l = true) : Nm w g A n c (sgn g (Lm.val l)) := by
  have hd := Lm.digits_val h.1.2.2.1 (mayB_canon hm)
  refine ⟨?_, ?_⟩
  · rw [natAbs_sgn, hd]; exact h
  · refine Lib.hid ?_
    cases g with
    | false => simp [sgn]
    | true =>
      have := val_pos_of_neg hm h.1.2.2.1
      simp [sgn]; omega
theorem top_of_may {g : Bool} {l : List Nat} (hs : Lm.Small l) (hm : mayB g l = true) : (sgn g (Lm.val l)).natAbs < Lm.top := by
  rw [natAbs_sgn]
  refine (Lm.top_iff _).1 ?_
  rw [Lm.digits_val hs (mayB_canon hm)]
  exact mayB_len hm

section
variable (w : World) (s s' : Bool) (A B : Option Addr) (n c m d : Nat) (z z' : Int) (h : Nm w s A n c z) (h' : Nm w s' B m d z') (ht : z.natAbs < Lm.top) (ht' : z'.natAbs < Lm.top)
include h h' ht ht'
end
section
variable (w : World) (s : Bool) (A : Option Addr) (n c : Nat) (z : Int) (h : Nm w s A n c z) (ht : z.natAbs < Lm.top)
include h ht
theorem small_z : Calls Try.prog 42 #[.agg #[.bool s, .slice A n c]] w (SmallPost w (if smallB z then z else 0) (smallB z)) := by
  have := small_yes w s A n c _ h.1 (h.may ht)
  rwa [h.eqZ] at this
theorem may_z : Calls Try.prog 43 #[.agg #[.bool s, .slice A n c]] w fun e w' => e = .returned (.bool true) ∧ Below w.heap.size w w' := by
  have := may_b w s A n c _ h.1
  rwa [h.may ht] at this
end

theorem same_z (w : World) (s s' : Bool) (A B : Option Addr) (n c m d : Nat) (z z' : Int) (h : Nm w s A n c z) (h' : Nm w s' B m d z') :
    Calls Try.prog 11 #[.agg #[.bool s, .slice A n c], .agg #[.bool s', .slice B m d]] w fun e w' => e = .returned (.bool (decide (z = z'))) ∧ Below w.heap.size w w' := by
  have := sameNum_any w s s' A B n c m d _ _ h.1.1 h.1.2 h'.1.1 h'.1.2
  have e : sameB s s' (Lm.digits z.natAbs) (Lm.digits z'.natAbs) = decide (z = z') := by
    unfold sameB
    rw [h.2.out, h'.2.out]
    by_cases hz : z = z'
    · subst hz; simp
    · rw [decide_eq_false hz]
      by_cases hs : (decide (z < 0) == decide (z' < 0)) = true
      · rw [hs, Bool.true_and, decide_eq_false_iff_not]
        intro hd
        have h1 := congrArg Lm.val hd
        rw [Lm.val_digits, Lm.val_digits] at h1
        simp at hs
        omega
      · simp at hs; simp [hs]
  rwa [e] at this
/-- Of two that are one. -/
theorem same_z' (w : World) (s s' : Bool) (A B : Option Addr) (n c m d : Nat) (z z' : Int) (h : Nm w s A n c z) (h' : Nm w s' B m d z') (e : z = z') :
    Calls Try.prog 11 #[.agg #[.bool s, .slice A n c], .agg #[.bool s', .slice B m d]] w fun e w' => e = .returned (.bool true) ∧ Below w.heap.size w w' := by
  have := same_z w s s' A B n c m d z z' h h'
  rwa [decide_eq_true e] at this

theorem Lm.top_ge : 340282366920938463463374607431768211456 < Lm.top := by decide
theorem clip_small {z : Int} (h : z.natAbs < Lm.top) : clip z = z := if_pos h
theorem fits_small {z : Int} (h : z.natAbs < Lm.top) : fits z = true := decide_eq_true h

end Go.Proofs.Ytbpihjcghmmacaa
