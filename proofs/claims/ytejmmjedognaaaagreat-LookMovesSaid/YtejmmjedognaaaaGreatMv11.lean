/-
  CONTRACTS OF num.Add, Sub, Mul, Neg, Cmp, Small, Of.
-/
import Derived.Test.YtejmmjedognaaaaGreatMv10
namespace Go.Proofs.YtejmmjedognaaaaGreat
open Go.RowKit

set_option maxRecDepth 100000 in
theorem sgn_add (g : Bool) (a b : Nat) : sgn g (a + b) = sgn g a + sgn g b := by cases g <;> simp [sgn] <;> omega
set_option maxRecDepth 100000 in
theorem sgn_less {g g' : Bool} (h : g ≠ g') {a b : Nat} (hl : a < b) : sgn g' (b - a) = sgn g a + sgn g' b := by
  cases g <;> cases g' <;> simp [sgn] at h ⊢ <;> omega
set_option maxRecDepth 100000 in
theorem sgn_more {g g' : Bool} (h : g ≠ g') {a b : Nat} (hl : b ≤ a) : sgn g (a - b) = sgn g a + sgn g' b := by
  cases g <;> cases g' <;> simp [sgn] at h ⊢ <;> omega
set_option maxRecDepth 100000 in
theorem sgn_not (g : Bool) (a : Nat) : sgn (!g) a = - sgn g a := by cases g <;> simp [sgn]
set_option maxRecDepth 100000 in
theorem sgn_mul (g g' : Bool) (a b : Nat) : sgn (!(g == g')) (a * b) = sgn g a * sgn g' b := by cases g <;> cases g' <;> simp [sgn, Int.neg_mul, Int.mul_neg]

/-- Limbs that came in, of any make. -/
def Raw (w : World) (A : Option Addr) (n c : Nat) (l : List Nat) : Prop := Lim w A n c l ∧ c ≤ maxLen
set_option maxRecDepth 100000 in
theorem Raw.below {w w' : World} {A : Option Addr} {n c : Nat} {l : List Nat} (h : Raw w A n c l) (hb : Below w.heap.size w w') : Raw w' A n c l := ⟨h.1.below hb, h.2⟩
set_option maxRecDepth 100000 in
theorem Raw.drewN {w : World} {A : Option Addr} {n c : Nat} {l : List Nat} (h : Raw w A n c l) (q : Nat) : Raw (w.drewN q) A n c l := h

set_option maxRecDepth 100000 in
theorem mayB_len {g : Bool} {l : List Nat} (h : mayB g l = true) : l.length ≤ 8 := by
  unfold mayB at h
  by_cases h0 : l.length = 0
  · omega
  · rw [if_neg h0] at h; simp at h; exact h.1
set_option maxRecDepth 100000 in
theorem mayB_canon {g : Bool} {l : List Nat} (h : mayB g l = true) : Lm.Canon l := by
  intro h0
  unfold mayB at h
  rw [if_neg (by omega)] at h
  simp at h
  exact h.2
set_option maxRecDepth 100000 in
theorem Raw.arg {w : World} {g : Bool} {A : Option Addr} {n c : Nat} {l : List Nat} (h : Raw w A n c l) (hm : mayB g l = true) : Arg w A n c (Lm.val l) := by
  unfold Arg
  rw [Lm.digits_val h.1.2.2.1 (mayB_canon hm)]
  exact ⟨h.1, h.2, by have := mayB_len hm; rw [h.1.1] at this; omega⟩

set_option maxRecDepth 100000 in
theorem may_b (w : World) (g : Bool) (A : Option Addr) (n c : Nat) (l : List Nat) (h : Raw w A n c l) :
    Calls Tryz.prog 160 #[.agg #[.bool g, .slice A n c]] w fun e w' => e = .returned (.bool (mayB g l)) ∧ Below w.heap.size w w' :=
  (may_any w g A n c l h.1 h.2).mono fun _ _ ⟨he, hw⟩ => ⟨he, by rw [hw]; exact (Below.refl _ _).alloc (Nat.le_refl _) _⟩

/-- How two integers stand. -/
def cmpZ (a b : Int) : Int := if a < b then -1 else if b < a then 1 else 0
/-- What a call leaves that answers an int. -/
def IntPost (w : World) (z : Int) (e : Ending) (w' : World) : Prop := e = .returned (.int .i64 z) ∧ Below w.heap.size w w'

set_option maxRecDepth 100000 in
theorem val_pos_of_neg {l : List Nat} (h : mayB true l = true) (hs : Lm.Small l) : 0 < Lm.val l := by
  rcases Nat.eq_zero_or_pos (Lm.val l) with h0 | h0
  · have := Lm.val_eq_zero (mayB_canon h) h0
    subst this
    simp [mayB] at h
  · exact h0
end Go.Proofs.YtejmmjedognaaaaGreat
