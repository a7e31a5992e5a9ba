import Derived.Test.YtbpihjcghmmacaaNumZ
namespace Go.Proofs.Ytbpihjcghmmacaa
open Go.RowKit

theorem lit_nm (w : World) : Nm (w.alloc (.cells #[.int .u32 0, .int .u32 0, .int .u32 65536] 50)) true (some ⟨w.heap.size, 0, none⟩) 3 3 ((-1099511627776 : Int) * 1099511627776) := by
  have hs : Lm.Small [0, 0, 65536] := by intro x hx; simp at hx; omega
  have hc : Lm.Canon [0, 0, 65536] := by intro _; decide
  have e : Lm.digits ((-1099511627776 : Int) * 1099511627776).natAbs = [0, 0, 65536] := by
    have := Lm.digits_val hs hc
    rw [← this]
    congr 1
  refine ⟨?_, Lib.hid rfl⟩
  rw [e]
  exact ⟨Lim.new w [0, 0, 65536] hs, by decide⟩

end Go.Proofs.Ytbpihjcghmmacaa
