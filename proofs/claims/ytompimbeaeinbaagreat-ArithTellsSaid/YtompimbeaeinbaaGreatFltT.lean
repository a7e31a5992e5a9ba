/-
  CONTRACT OF THE REFERENCE's whole: its walk.
-/
import Derived.Test.YtompimbeaeinbaaGreatFltS
import Derived.Deep.RegionHeld3
namespace Go.Proofs.YtompimbeaeinbaaGreat
open Go.RowKit

set_option maxRecDepth 100000 in
/-- append, as one step of a region that draws. -/
theorem step_append_run {P : Program} {ops : Array Oper} {o : Oper} {a : Act} {w w' : World} {K : Act → World → Prop} {Q : Exit → Act → World → Prop} {E : Prop}
    (hg : o.guard = none) (s x : Operand) (t : TypeId) (hop : o.op = Op.call { callee := Callee.builtin Builtin.append, args := #[s, x], argTypes := #[t, t] })
    (v y v' : Value) (hs : a.eval s = v) (hx : a.eval x = y) (hrun : (Builtin.append_ #[t, t] o.type #[v, y]).run P w = .ok v' w')
    (hK : K (a.put o.dst v') w') : if Region.wanted o (yielded ops a.tmps) = true then Oper.wp P o a w K Q else E := by
  have hw : Region.wanted o (yielded ops a.tmps) = true := by simp [Region.wanted, hg]
  rw [if_pos hw]
  unfold Oper.wp
  simp [execOp, hop, resolve, invoke, builtin, hs, hx, hrun, Result.andThen]
  exact hK

set_option maxRecDepth 100000 in
/-- Mantissa and place, as the reference takes them out of the bits. -/
theorem mt_lo {r : Nat} (h : r / 4503599627370496 = 0) : Fl.mt r = r % 4503599627370496 ∧ Fl.pl r = 0 := by
  have e : Fl.B = 4503599627370496 := rfl
  unfold Fl.mt Fl.pl
  rw [e, if_pos (by omega), if_pos (by omega)]
  exact ⟨by omega, rfl⟩
set_option maxRecDepth 100000 in
theorem mt_hi {r : Nat} (h : r / 4503599627370496 ≠ 0) : Fl.mt r = 4503599627370496 + r % 4503599627370496 ∧ Fl.pl r + 1 = r / 4503599627370496 := by
  have e : Fl.B = 4503599627370496 := rfl
  unfold Fl.mt Fl.pl
  rw [e, if_neg (by omega), if_neg (by omega)]
  exact ⟨rfl, by omega⟩


set_option maxRecDepth 100000 in
theorem shl_step {t T0 : List Nat} {i c u X s : Nat} (hi : i < t.length) (h : Lm.val (t.take i) + 4294967296 ^ i * c = Lm.val (T0.take i) * 2 ^ u) (hX : Lm.lg T0 i = X) (hs : s = X * 2 ^ u + c) :
    Lm.val ((t.set i (s % 4294967296)).take (i + 1)) + 4294967296 ^ (i + 1) * (s / 4294967296) = Lm.val (T0.take (i + 1)) * 2 ^ u := by
  rw [Lm.val_take_succ, Lm.val_take_succ, Lm.val_take_set (Nat.le_refl _), Lm.lg_set hi, if_pos rfl, hX, Nat.add_mul, ← h, Nat.pow_succ, Nat.mul_assoc (4294967296 ^ i) 4294967296, Nat.mul_assoc (4294967296 ^ i) X, Nat.add_assoc, Nat.add_assoc, ← Nat.mul_add, ← Nat.mul_add]
  congr 2
  have := Nat.div_add_mod s 4294967296
  omega
set_option maxRecDepth 100000 in
theorem digits_row {t : List Nat} {K : Nat} (hs : Lm.Small t) (hv : Lm.val t = K) (hn : 0 < t.length) (hge : 4294967296 ^ (t.length - 1) ≤ K) : Lm.digits K = t := by
  have h1 := Lm.digits_take hs
  rw [hv] at h1
  have h2 : ¬ (Lm.digits K).length ≤ t.length - 1 := by rw [Lm.digits_length]; omega
  rw [h1, List.take_of_length_le]
  rw [h1, List.length_take] at h2
  rw [h1, List.length_take]
  omega
set_option maxRecDepth 100000 in
theorem val_zeros2 (N m : Nat) : Lm.val (List.replicate N 0 ++ Lm.digits m) = 4294967296 ^ N * m := by
  rw [Lm.val_append, List.length_replicate, Lm.val_digits]
  have : Lm.val (List.replicate N 0) = 0 := by
    induction N with
    | zero => rfl
    | succ N ih => rw [List.replicate_succ]; simp only [Lm.val]; omega
  omega
set_option maxRecDepth 100000 in
theorem pow_32 (N : Nat) : 4294967296 ^ N = 2 ^ (32 * N) := by rw [Nat.pow_mul]
set_option maxRecDepth 100000 in
theorem top_zeros {N m : Nat} (hm : m ≠ 0) : 4294967296 ^ (N + (Lm.digits m).length - 1) ≤ 4294967296 ^ N * m := by
  have h0 : 0 < (Lm.digits m).length := by
    rcases Nat.eq_zero_or_pos (Lm.digits m).length with h | h
    · exact absurd (Lm.digits_eq_nil.1 (List.eq_nil_of_length_eq_zero h)) hm
    · exact h
  have h1 : ¬ (Lm.digits m).length ≤ (Lm.digits m).length - 1 := by omega
  rw [Lm.digits_length] at h1
  rw [show N + (Lm.digits m).length - 1 = N + ((Lm.digits m).length - 1) by omega, Nat.pow_add]
  exact Nat.mul_le_mul_left _ (by omega)

end Go.Proofs.YtompimbeaeinbaaGreat
