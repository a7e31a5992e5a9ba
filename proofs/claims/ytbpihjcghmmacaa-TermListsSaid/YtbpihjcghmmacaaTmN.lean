/-
  PACKAGE term: Same of light terms.
-/
import Derived.Test.YtbpihjcghmmacaaTmM
namespace Go.Proofs.Ytbpihjcghmmacaa
open Go.RowKit

set_option maxHeartbeats 2000000 in
theorem same_light (w : World) (r : TR) (t : Tm) (h : TV w r t) (ho : t.Ok) (r' : TR) (t' : Tm) (h' : TV w r' t') (ho' : t'.Ok) (hc : t.cap ≤ 300) (hcc : t'.cap = t.cap) :
    Calls Try.prog 15 #[.agg #[.int .i64 r.k, .int .i64 r.n, .bool r.g, .slice r.A r.ln r.lc, .int .u64 r.u, .string r.s, .slice r.B r.m r.d], .agg #[.int .i64 r'.k, .int .i64 r'.n, .bool r'.g, .slice r'.A r'.ln r'.lc, .int .u64 r'.u, .string r'.s, .slice r'.B r'.m r'.d]] w fun e w' => e = .returned (.bool (Tm.sameB t t')) ∧ Below w.heap.size w w' := by
  obtain ⟨R, hR⟩ : ∃ R, R = Tm.sameB t t' := ⟨_, rfl⟩
  rw [← hR]
  have HR := Lib.hid hR
  clear hR
  have I := SmI.new h h'
  clear h h'
  have HC := Lib.hid hcc
  clear hcc
  go_enter Try.func15, Try.ntmps15
  go_wp2_with fail
  generalize (w.alloc (.cells #[.int .i64 r.k, .int .i64 r.n, .bool r.g, .slice r.A r.ln r.lc, .int .u64 r.u, .string r.s, .slice r.B r.m r.d] 28)).alloc (.cells #[.int .i64 r'.k, .int .i64 r'.n, .bool r'.g, .slice r'.A r'.ln r'.lc, .int .u64 r'.u, .string r'.s, .slice r'.B r'.m r'.d] 28) = W at *
  refine (weight_any W r t I.tv ho).mono ?_
  rintro e w1 ⟨rfl, hb1⟩
  have I1 := I.below hb1
  clear I
  have y0 := I1.ix.at.c0; have y1 := I1.ix.at.c1; have y2 := I1.ix.at.c2; have y3 := I1.ix.at.c3; have y4 := I1.ix.at.c4; have y5 := I1.ix.at.c5; have y6 := I1.ix.at.c6
  go_wp2_with fail
  refine (weight_any w1 r' t' I1.tw ho').mono ?_
  rw [HC.out]
  rintro e w2 ⟨rfl, hb2⟩
  have I2 := I1.below hb2
  clear I1 y0 y1 y2 y3 y4 y5 y6
  have y0 := I2.ix.at.c0; have y1 := I2.ix.at.c1; have y2 := I2.ix.at.c2; have y3 := I2.ix.at.c3; have y4 := I2.ix.at.c4; have y5 := I2.ix.at.c5; have y6 := I2.ix.at.c6; have x0 := I2.bx.at.c0; have x1 := I2.bx.at.c1; have x2 := I2.bx.at.c2; have x3 := I2.bx.at.c3; have x4 := I2.bx.at.c4; have x5 := I2.bx.at.c5; have x6 := I2.bx.at.c6
  have hd : decide (300 < (t.cap : Int)) = false := by rw [decide_eq_false_iff_not]; omega
  generalize t.cap = c at hd ⊢
  go_wp2_with fail
  refine (same_nil t w2 r r' t' I2.tv I2.tw).mono ?_
  rw [← HR.out]
  rintro e w3 ⟨rfl, hb3⟩
  have I3 := I2.below hb3
  go_wp2
  go_ret
  exact ⟨rfl, I3.be⟩
theorem Tm.alikeB_refl (t : Tm) : Tm.alikeB t t = true := by simp [Tm.alikeB]
theorem Tm.sameB_refl (t : Tm) : Tm.sameB t t = true := by
  induction t using Tm.ind with
  | h k n g l u s ks ih =>
    rw [Tm.sameB_eq, Tm.alikeB_refl, Bool.true_and]
    refine Tm.samesB_yes rfl (fun j t u h1 h2 => ?_)
    rw [h1] at h2
    cases h2
    refine ih t ?_
    have hm := List.mem_of_getElem? h1
    rw [Tm.ment_args] at hm
    split at hm
    · exact hm
    · cases hm
end Go.Proofs.Ytbpihjcghmmacaa
