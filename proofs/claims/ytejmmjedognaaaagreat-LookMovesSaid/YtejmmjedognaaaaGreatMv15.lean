/-
  CONTRACTS OF THE LAWS' OWN FUNCTIONS ON INTEGERS (beehiveref1): Add whole, Sub, Cmp.
  CONTRACTS OF THE LAWS' OWN FUNCTIONS ON INTEGERS (beehiveref1): Mul.
-/
import Derived.Test.YtejmmjedognaaaaGreatMv14
namespace Go.Proofs.YtejmmjedognaaaaGreat
open Go.RowKit

end Go.Proofs.YtejmmjedognaaaaGreat

namespace Go.Proofs.YtejmmjedognaaaaGreat
open Go.RowKit

set_option maxRecDepth 100000 in
theorem set_drewN (w : World) (c : Array Value) (t : TypeId) (q i : Nat) (v : Value) : ((w.alloc (.cells c t)).drewN q).setCell ⟨w.heap.size, i, none⟩ v = (w.alloc (.cells (c.setIfInBounds i v) t)).drewN q := by
  show ((w.alloc (.cells c t)).setCell ⟨w.heap.size, i, none⟩ v).drewN q = _
  rw [World.setCell_alloc_at _ _ _ _ _ rfl]
set_option maxRecDepth 100000 in
theorem mul_wrap2 (x a b z : Nat) (h : x + (a * b + z) < 18446744073709551616) : IntKind.u64.wrap (IntKind.u64.wrap (IntKind.u64.wrap ((a : Int) * b) + z) + x) = ((x + (a * b + z) : Nat) : Int) := by
  rw [← Int.natCast_mul]
  generalize a * b = p at *
  rw [IntKind.wrap_u64, IntKind.wrap_u64, IntKind.wrap_u64]
  omega
set_option maxRecDepth 100000 in
theorem val_take_zeros {o : List Nat} {q : Nat} (h : ∀ p, q ≤ p → Lm.lg o p = 0) : Lm.val (o.take q) = Lm.val o := by
  have hd : ∀ m : List Nat, (∀ j, Lm.lg m j = 0) → Lm.val m = 0 := by
    intro m
    induction m with
    | nil => intro _; rfl
    | cons x m ih =>
      intro hm
      have hx : x = 0 := hm 0
      have hr := ih (fun j => by have := hm (j + 1); rwa [Lm.lg_succ] at this)
      simp only [Lm.val, hr, hx]
  conv => rhs; rw [← List.take_append_drop q o]
  rw [Lm.val_append, hd (o.drop q) (fun j => by
    have := h (q + j) (by omega)
    simp only [Lm.lg, List.getD_eq_getElem?_getD, List.getElem?_drop] at this ⊢
    exact this)]
  simp
set_option maxRecDepth 100000 in
theorem refmul_outer {t o l k : List Nat} {i m x : Nat} (hsl : Lm.Small l) (hsk : Lm.Small k) (hk : k.length = m)
    (hin : Lm.val (t.take (i + (m + 1))) + 4294967296 ^ (i + (m + 1)) * x = Lm.val (o.take (i + (m + 1))) + 4294967296 ^ i * (Lm.lg l i * Lm.val (k.take (m + 1))))
    (hold : ∀ p, i + (m + 1) ≤ p → Lm.lg t p = Lm.lg o p) (hinv : Lm.val o = Lm.val (l.take i) * Lm.val k) (hoz : ∀ p, i + m ≤ p → Lm.lg o p = 0) :
    Lm.val t = Lm.val (l.take (i + 1)) * Lm.val k ∧ ∀ p, i + 1 + m ≤ p → Lm.lg t p = 0 := by
  have hz : ∀ p, i + (m + 1) ≤ p → Lm.lg t p = 0 := fun p hp => by rw [hold p hp]; exact hoz p (by omega)
  refine ⟨?_, fun p hp => hz p (by omega)⟩
  rw [val_take_zeros hz, val_take_zeros (fun p hp => hoz p (by omega)), List.take_of_length_le (l := k) (by omega), hinv] at hin
  have hV : Lm.val (l.take i) * Lm.val k + 4294967296 ^ i * (Lm.lg l i * Lm.val k) = Lm.val (l.take (i + 1)) * Lm.val k := by
    rw [Lm.val_take_succ, Nat.add_mul, Nat.mul_assoc]
  rw [hV] at hin
  have b1 : Lm.val (l.take (i + 1)) < 4294967296 ^ (i + 1) := by
    refine Nat.lt_of_lt_of_le (Lm.val_lt (Lm.small_take hsl _)) (Nat.pow_le_pow_right (by decide) ?_)
    rw [List.length_take]; omega
  have b2 : Lm.val k < 4294967296 ^ m := by have := Lm.val_lt hsk; rwa [hk] at this
  have b3 : Lm.val (l.take (i + 1)) * Lm.val k < 4294967296 ^ (i + (m + 1)) := by
    rw [show i + (m + 1) = (i + 1) + m from by omega, Nat.pow_add]
    exact Nat.mul_lt_mul'' b1 b2
  generalize 4294967296 ^ (i + (m + 1)) = Q at *
  generalize Lm.val (l.take (i + 1)) * Lm.val k = V at *
  rcases Nat.eq_zero_or_pos x with h0 | h0
  · subst h0
    rw [Nat.mul_zero] at hin
    omega
  · have h4 : Q * 1 ≤ Q * x := Nat.mul_le_mul_left _ h0
    generalize Q * x = q at *
    omega
set_option maxRecDepth 100000 in
theorem lg_zeros (n p : Nat) : Lm.lg (List.replicate n 0) p = 0 := by
  simp only [Lm.lg, List.getD_eq_getElem?_getD, List.getElem?_replicate]
  split <;> rfl

end Go.Proofs.YtejmmjedognaaaaGreat
