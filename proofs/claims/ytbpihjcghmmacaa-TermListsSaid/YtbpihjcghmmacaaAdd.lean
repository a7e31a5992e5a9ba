import Derived.Test.YtbpihjcghmmacaaLeafC
namespace Go.Proofs.Ytbpihjcghmmacaa
open Go.RowKit

/-- What addLimbs leaves: a new row. -/
def SumPost (w : World) (N v : Nat) (e : Ending) (w' : World) : Prop :=
  ∃ t : List Nat, e = .returned (.slice (some ⟨w.heap.size, 0, none⟩) N N) ∧ w' = w.alloc (.cells (arr t) 50) ∧ t.length = N ∧ Lm.Small t ∧ Lm.val t = v

theorem cast3d (x a b : Nat) : ((x : Int) + a + b) / 4294967296 = (((x + a + b) / 4294967296 : Nat) : Int) := by omega
theorem cast3m (x a b : Nat) : ((x : Int) + a + b) % 4294967296 = (((x + a + b) % 4294967296 : Nat) : Int) := by omega
theorem cast2d (x a : Nat) : ((x : Int) + a) / 4294967296 = (((x + a + 0) / 4294967296 : Nat) : Int) := by omega
theorem cast2m (x a : Nat) : ((x : Int) + a) % 4294967296 = (((x + a + 0) % 4294967296 : Nat) : Int) := by omega

theorem sub_wrap (a x b : Nat) (ha : a ≤ 4294967295) (hx : x ≤ 1) (hb : b ≤ 4294967295) :
    ∃ y b' : Nat, IntKind.u64.wrap (IntKind.u64.wrap ((a : Int) - x) - b) % 4294967296 = (y : Int) ∧ IntKind.u64.wrap (IntKind.u64.wrap ((a : Int) - x) - b) / 9223372036854775808 = (b' : Int) ∧ b' ≤ 1 ∧ y < 4294967296 ∧ a + 4294967296 * b' = y + b + x := by
  rw [IntKind.wrap_u64, IntKind.wrap_u64]
  refine ⟨((((a : Int) - x) % 18446744073709551616 - b) % 18446744073709551616 % 4294967296).toNat, ((((a : Int) - x) % 18446744073709551616 - b) % 18446744073709551616 / 9223372036854775808).toNat, ?_, ?_, ?_, ?_, ?_⟩ <;> omega
theorem sub_wrap0 (a x : Nat) (ha : a ≤ 4294967295) (hx : x ≤ 1) :
    ∃ y b' : Nat, IntKind.u64.wrap ((a : Int) - x) % 4294967296 = (y : Int) ∧ IntKind.u64.wrap ((a : Int) - x) / 9223372036854775808 = (b' : Int) ∧ b' ≤ 1 ∧ y < 4294967296 ∧ a + 4294967296 * b' = y + 0 + x := by
  rw [IntKind.wrap_u64]
  refine ⟨(((a : Int) - x) % 18446744073709551616 % 4294967296).toNat, (((a : Int) - x) % 18446744073709551616 / 9223372036854775808).toNat, ?_, ?_, ?_, ?_, ?_⟩ <;> omega

end Go.Proofs.Ytbpihjcghmmacaa
