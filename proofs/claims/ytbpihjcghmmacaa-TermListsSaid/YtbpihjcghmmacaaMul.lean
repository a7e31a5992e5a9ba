import Derived.Test.YtbpihjcghmmacaaAdd
namespace Go.Proofs.Ytbpihjcghmmacaa
open Go.RowKit

theorem val_zeros (n : Nat) : Lm.val (List.replicate n 0) = 0 := by
  induction n with
  | zero => rfl
  | succ n ih => rw [List.replicate_succ, Lm.val, ih]

theorem mul_wrap (x a b z : Nat) (h : x + (a * b + z) < 18446744073709551616) : IntKind.u64.wrap ((x : Int) + IntKind.u64.wrap (IntKind.u64.wrap ((a : Int) * b) + z)) = ((x + (a * b + z) : Nat) : Int) := by
  rw [← Int.natCast_mul]
  generalize a * b = p at *
  rw [IntKind.wrap_u64, IntKind.wrap_u64, IntKind.wrap_u64]
  omega
theorem castd (x : Nat) : (x : Int) / 4294967296 = ((x / 4294967296 : Nat) : Int) := by omega
theorem castm (x : Nat) : (x : Int) % 4294967296 = ((x % 4294967296 : Nat) : Int) := by omega
theorem div_small {x : Nat} (h : x < 18446744073709551616) : x / 4294967296 ≤ 4294967295 := by omega

end Go.Proofs.Ytbpihjcghmmacaa
