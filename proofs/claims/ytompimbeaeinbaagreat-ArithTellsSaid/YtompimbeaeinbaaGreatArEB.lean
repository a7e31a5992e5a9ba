/-
  PACKAGE arith: compute of floats, where it fails.
-/
import Derived.Test.YtompimbeaeinbaaGreatArD
import Derived.RegionDies
namespace Go.Proofs.YtompimbeaeinbaaGreat
open Go.RowKit

set_option maxRecDepth 100000 in
set_option maxHeartbeats 4000000 in
theorem compute_flt_p2 (w : World) (op : Int) (r r' : TR) (t t' : Tm) (h : TV w r t) (h' : TV w r' t') (ho : t.Ok) (ho' : t'.Ok) (hk : op = 8 ∨ t.kind = 3 ∨ t'.kind = 3) (x : Int) (hx : t.fltO = some x) (hy : t'.fltO = none) :
    Calls Tryz.prog 14 #[.int .i64 op, .agg #[.int .i64 r.k, .int .i64 r.n, .bool r.g, .slice r.A r.ln r.lc, .int .u64 r.u, .string r.s, .slice r.B r.m r.d], .agg #[.int .i64 r'.k, .int .i64 r'.n, .bool r'.g, .slice r'.A r'.ln r'.lc, .int .u64 r'.u, .string r'.s, .slice r'.B r'.m r'.d]] w (BadP w) := by
  rw [h.kind, h'.kind] at hk
  have I := (SmI.new h h').below ((Below.refl _ _).alloc (Nat.le_refl _) (.cells #[.int .i64 zeroR.k, .int .i64 zeroR.n, .bool zeroR.g, .slice zeroR.A zeroR.ln zeroR.lc, .int .u64 zeroR.u, .string zeroR.s, .slice zeroR.B zeroR.m zeroR.d] 28))
  have hz := Box7.new ((w.alloc (.cells #[.int .i64 r.k, .int .i64 r.n, .bool r.g, .slice r.A r.ln r.lc, .int .u64 r.u, .string r.s, .slice r.B r.m r.d] 28)).alloc (.cells #[.int .i64 r'.k, .int .i64 r'.n, .bool r'.g, .slice r'.A r'.ln r'.lc, .int .u64 r'.u, .string r'.s, .slice r'.B r'.m r'.d] 28)) zeroR
  simp only [World.size_alloc] at hz
  have hW : (((w.alloc (.cells #[.int .i64 r.k, .int .i64 r.n, .bool r.g, .slice r.A r.ln r.lc, .int .u64 r.u, .string r.s, .slice r.B r.m r.d] 28)).alloc (.cells #[.int .i64 r'.k, .int .i64 r'.n, .bool r'.g, .slice r'.A r'.ln r'.lc, .int .u64 r'.u, .string r'.s, .slice r'.B r'.m r'.d] 28)).alloc (.cells #[.int .i64 zeroR.k, .int .i64 zeroR.n, .bool zeroR.g, .slice zeroR.A zeroR.ln zeroR.lc, .int .u64 zeroR.u, .string zeroR.s, .slice zeroR.B zeroR.m zeroR.d] 28)).heap.size = w.heap.size + 1 + 1 + 1 := by simp
  have hc := flt_cases hk
  clear hk
  go_enter Tryz.func14, Tryz.ntmps14
  rcases hc with e8 | ⟨e8, e3⟩ | ⟨e8, e3, e3'⟩
  all_goals
    go_upto_region 2 with fail
    generalize ((w.alloc (.cells #[.int .i64 r.k, .int .i64 r.n, .bool r.g, .slice r.A r.ln r.lc, .int .u64 r.u, .string r.s, .slice r.B r.m r.d] 28)).alloc (.cells #[.int .i64 r'.k, .int .i64 r'.n, .bool r'.g, .slice r'.A r'.ln r'.lc, .int .u64 r'.u, .string r'.s, .slice r'.B r'.m r'.d] 28)).alloc (.cells #[.int .i64 zeroR.k, .int .i64 zeroR.n, .bool zeroR.g, .slice zeroR.A zeroR.ln zeroR.lc, .int .u64 zeroR.u, .string zeroR.s, .slice zeroR.B zeroR.m zeroR.d] 28) = W at *
    have J := I.drew
    have K0 := Lib.hid (hz.below (Below.refl _ _).drew)
    have hWd : W.drew.heap.size = w.heap.size + 1 + 1 + 1 := hW
    have n1 : w.heap.size + 1 + 1 ≠ w.heap.size := by omega
    have n2 : w.heap.size + 1 + 1 ≠ w.heap.size + 1 := by omega
    clear I hz
    have y0 := J.bx.at.c0; have y1 := J.bx.at.c1; have y2 := J.bx.at.c2; have y3 := J.bx.at.c3; have y4 := J.bx.at.c4; have y5 := J.bx.at.c5; have y6 := J.bx.at.c6; have x0 := J.ix.at.c0; have x1 := J.ix.at.c1; have x2 := J.ix.at.c2; have x3 := J.ix.at.c3; have x4 := J.ix.at.c4; have x5 := J.ix.at.c5; have x6 := J.ix.at.c6
    go_region_dies
    · have Q := float_yes W.drew r t x J.tv ho hx
      (with_reducible refine Q.mono ?_)
      clear Q
      rintro e v1 ⟨rfl, hv1⟩
      have J1 := J.below hv1
      rename_i K hK
      refine hK _ _ ?_
      clear hK K y0 y1 y2 y3 y4 y5 y6 x0 x1 x2 x3 x4 x5 x6
      have x0 := J1.ix.at.c0; have x1 := J1.ix.at.c1; have x2 := J1.ix.at.c2; have x3 := J1.ix.at.c3; have x4 := J1.ix.at.c4; have x5 := J1.ix.at.c5; have x6 := J1.ix.at.c6
      refine wpAny_ready (rs := [3]) (by kernel_rfl) (by simp) ?_; refine AllReady.cons rfl (fun K hK => ?_) AllReady.nil; go_simp; refine hK _ _ ?_; clear hK K
      refine wpAny_ready (rs := [4]) (by kernel_rfl) (by simp) ?_
      refine AllReady.cons rfl (fun K hK => ?_) AllReady.nil
      go_simp
      have Q := float_no v1 r' t' J1.tw ho' hy
      (with_reducible refine Q.mono ?_)
      clear Q
      rintro e v2 ⟨rfl, hv2⟩
      exact ⟨rfl, rfl, (J1.below hv2).be⟩
    all_goals
      have Q := float_yes W.drew r t x J.tv ho hx
      (with_reducible refine Q.mono ?_)
      clear Q
      rintro e v1 ⟨rfl, hv1⟩
      have J1 := J.below hv1
      rename_i K hK
      refine hK _ _ ?_
      clear hK K y0 y1 y2 y3 y4 y5 y6 x0 x1 x2 x3 x4 x5 x6
      have x0 := J1.ix.at.c0; have x1 := J1.ix.at.c1; have x2 := J1.ix.at.c2; have x3 := J1.ix.at.c3; have x4 := J1.ix.at.c4; have x5 := J1.ix.at.c5; have x6 := J1.ix.at.c6
      refine wpAny_ready (rs := [4]) (by kernel_rfl) (by simp) ?_
      refine AllReady.cons rfl (fun K hK => ?_) AllReady.nil
      go_simp
      have Q := float_no v1 r' t' J1.tw ho' hy
      (with_reducible refine Q.mono ?_)
      clear Q
      rintro e v2 ⟨rfl, hv2⟩
      exact ⟨rfl, rfl, (J1.below hv2).be⟩
end Go.Proofs.YtompimbeaeinbaaGreat
