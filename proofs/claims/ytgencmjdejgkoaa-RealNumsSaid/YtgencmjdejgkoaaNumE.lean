/-
  CONTRACTS OF num.Of, Small.
-/
import Derived.Test.YtgencmjdejgkoaaNumD
namespace Go.Proofs.Ytgencmjdejgkoaa
open Go.RowKit

theorem of_limbs_neg (z : Int) (h1 : -9223372036854775808 ≤ z) (h2 : z < 0) :
    ∃ t : List Nat, (#[Value.int .u32 (IntKind.u64.wrap (-IntKind.u64.wrap z) % 4294967296), Value.int .u32 (IntKind.u64.wrap (-IntKind.u64.wrap z) / 4294967296 % 4294967296)] : Array Value) = arr t ∧ t.length = 2 ∧ Lm.Small t ∧ Lm.val t = z.natAbs := by
  refine ⟨[z.natAbs % 4294967296, z.natAbs / 4294967296], ?_, rfl, ?_, ?_⟩
  · have e1 : IntKind.u64.wrap (-IntKind.u64.wrap z) % 4294967296 = ((z.natAbs % 4294967296 : Nat) : Int) := by rw [IntKind.wrap_u64, IntKind.wrap_u64]; omega
    have e2 : IntKind.u64.wrap (-IntKind.u64.wrap z) / 4294967296 % 4294967296 = ((z.natAbs / 4294967296 : Nat) : Int) := by rw [IntKind.wrap_u64, IntKind.wrap_u64]; omega
    rw [e1, e2]
    rfl
  · intro x hx
    simp at hx
    omega
  · simp only [Lm.val]; omega
theorem of_limbs_pos (z : Int) (h1 : 0 ≤ z) (h2 : z ≤ 9223372036854775807) :
    ∃ t : List Nat, (#[Value.int .u32 (z % 4294967296), Value.int .u32 (z / 4294967296)] : Array Value) = arr t ∧ t.length = 2 ∧ Lm.Small t ∧ Lm.val t = z.natAbs := by
  refine ⟨[z.natAbs % 4294967296, z.natAbs / 4294967296], ?_, rfl, ?_, ?_⟩
  · have e1 : z % 4294967296 = ((z.natAbs % 4294967296 : Nat) : Int) := by omega
    have e2 : z / 4294967296 = ((z.natAbs / 4294967296 : Nat) : Int) := by omega
    rw [e1, e2]
    rfl
  · intro x hx
    simp at hx
    omega
  · simp only [Lm.val]; omega

theorem or_u64 (v x : Nat) (hv : v ≤ 4294967295) (hx : x ≤ 4294967295) : bits .or .u64 (v : Int) ((x : Int) * 4294967296) = ((v + 4294967296 ^ 1 * x : Nat) : Int) := by
  have e : ((x : Int) * 4294967296) = ((x * 4294967296 : Nat) : Int) := by omega
  rw [e, bits_or_u64_nat _ _ (by omega) (by omega)]
  have h := Nat.shiftLeft_add_eq_or_of_lt (a := x) (b := v) (i := 32) (by omega)
  rw [Nat.shiftLeft_eq] at h
  rw [Nat.or_comm, ← h]
  congr 1
  omega
theorem or_u64_0 (x : Nat) (hx : x ≤ 4294967295) : bits .or .u64 0 (x : Int) = (x : Int) := by
  have h := bits_or_u64_nat 0 x (by omega) (by omega)
  simpa using h

/-- Is z from Least to Greatest? -/
def smallB (z : Int) : Bool := decide (-1152921504606846976 ≤ z) && decide (z ≤ 1152921504606846975)
/-- What num.Small leaves. -/
def SmallPost (w : World) (z : Int) (ok : Bool) (e : Ending) (w' : World) : Prop := e = .returned (.tuple #[.int .i64 z, .bool ok]) ∧ Below w.heap.size w w'

end Go.Proofs.Ytgencmjdejgkoaa
