/-
  THE REFERENCE's Do (chapter 6).
-/
import Derived.Test.YtompimbeaeinbaaGreatRfA
namespace Go.Proofs.YtompimbeaeinbaaGreat
open Go.RowKit

set_option maxRecDepth 100000 in
set_option maxHeartbeats 8000000 in
theorem refDo_ff (w : World) (op : Int) (r r' : TR) (t t' : Tm) (h : TV w r t) (h' : TV w r' t') (ho : t.Ok) (ho' : t'.Ok) (hx : t.fltO = none) (hy : t'.fltO = none) :
    Calls Tryz.prog 7 #[.int .i64 op, .agg #[.int .i64 r.k, .int .i64 r.n, .bool r.g, .slice r.A r.ln r.lc, .int .u64 r.u, .string r.s, .slice r.B r.m r.d], .agg #[.int .i64 r'.k, .int .i64 r'.n, .bool r'.g, .slice r'.A r'.ln r'.lc, .int .u64 r'.u, .string r'.s, .slice r'.B r'.m r'.d]] w (RfP w none) := by
  have I := (SmI.new h h').below ((Below.refl _ _).alloc (Nat.le_refl _) (.cells #[.int .i64 zeroR.k, .int .i64 zeroR.n, .bool zeroR.g, .slice zeroR.A zeroR.ln zeroR.lc, .int .u64 zeroR.u, .string zeroR.s, .slice zeroR.B zeroR.m zeroR.d] 28))
  have hz := Box7.new ((w.alloc (.cells #[.int .i64 r.k, .int .i64 r.n, .bool r.g, .slice r.A r.ln r.lc, .int .u64 r.u, .string r.s, .slice r.B r.m r.d] 28)).alloc (.cells #[.int .i64 r'.k, .int .i64 r'.n, .bool r'.g, .slice r'.A r'.ln r'.lc, .int .u64 r'.u, .string r'.s, .slice r'.B r'.m r'.d] 28)) zeroR
  simp only [World.size_alloc] at hz
  have hW : (((w.alloc (.cells #[.int .i64 r.k, .int .i64 r.n, .bool r.g, .slice r.A r.ln r.lc, .int .u64 r.u, .string r.s, .slice r.B r.m r.d] 28)).alloc (.cells #[.int .i64 r'.k, .int .i64 r'.n, .bool r'.g, .slice r'.A r'.ln r'.lc, .int .u64 r'.u, .string r'.s, .slice r'.B r'.m r'.d] 28)).alloc (.cells #[.int .i64 zeroR.k, .int .i64 zeroR.n, .bool zeroR.g, .slice zeroR.A zeroR.ln zeroR.lc, .int .u64 zeroR.u, .string zeroR.s, .slice zeroR.B zeroR.m zeroR.d] 28)).heap.size = w.heap.size + 3 := by simp
  go_enter Tryz.func7, Tryz.ntmps7
  go_wp2_with fail
  generalize ((w.alloc (.cells #[.int .i64 r.k, .int .i64 r.n, .bool r.g, .slice r.A r.ln r.lc, .int .u64 r.u, .string r.s, .slice r.B r.m r.d] 28)).alloc (.cells #[.int .i64 r'.k, .int .i64 r'.n, .bool r'.g, .slice r'.A r'.ln r'.lc, .int .u64 r'.u, .string r'.s, .slice r'.B r'.m r'.d] 28)).alloc (.cells #[.int .i64 zeroR.k, .int .i64 zeroR.n, .bool zeroR.g, .slice zeroR.A zeroR.ln zeroR.lc, .int .u64 zeroR.u, .string zeroR.s, .slice zeroR.B zeroR.m zeroR.d] 28) = W at *
  refine (refFloat_no W r t I.tv ho hx).mono ?_
  rintro e w1 ⟨⟨x, rfl⟩, hb1⟩
  have J1 := I.below hb1
  have K1 := hz.below hb1
  have hsw1 := hb1.size
  clear I hz
  have y0 := J1.ix.at.c0; have y1 := J1.ix.at.c1; have y2 := J1.ix.at.c2; have y3 := J1.ix.at.c3; have y4 := J1.ix.at.c4; have y5 := J1.ix.at.c5; have y6 := J1.ix.at.c6
  go_wp2_with fail
  refine (refFloat_no w1 r' t' J1.tw ho' hy).mono ?_
  rintro e w2 ⟨⟨y, rfl⟩, hb2⟩
  have J2 := J1.below hb2
  have K2 := K1.below hb2
  have hsw2 := hb2.size
  clear J1 K1
  clear y0 y1 y2 y3 y4 y5 y6
  have f0 := K2.frozen 0; have f1 := K2.frozen 1; have f2 := K2.frozen 2; have f3 := K2.frozen 3; have f4 := K2.frozen 4; have f5 := K2.frozen 5; have f6 := K2.frozen 6; have q0 := K2.at.c0; have q1 := K2.at.c1; have q2 := K2.at.c2; have q3 := K2.at.c3; have q4 := K2.at.c4; have q5 := K2.at.c5; have q6 := K2.at.c6
  go_wp2
  have C := (K2.put zeroR).at
  have hB5 := J2.be.put7 (g := w.heap.size + 1 + 1) (by omega) zeroR
  have y0 := C.c0; have y1 := C.c1; have y2 := C.c2; have y3 := C.c3; have y4 := C.c4; have y5 := C.c5; have y6 := C.c6
  clear C f0 f1 f2 f3 f4 f5 f6 q0 q1 q2 q3 q4 q5 q6
  change bodyPost _ _ _ _ _ (put7 w2 (w.heap.size + 1 + 1) zeroR)
  generalize put7 w2 (w.heap.size + 1 + 1) zeroR = W5 at *
  exact bodyPost_ret (v := .tuple #[.agg #[.int .i64 zeroR.k, .int .i64 zeroR.n, .bool zeroR.g, .slice zeroR.A zeroR.ln zeroR.lc, .int .u64 zeroR.u, .string zeroR.s, .slice zeroR.B zeroR.m zeroR.d], .int .i64 1]) (by simp [results, Tryz.results7, go_sem, y0, y1, y2, y3, y4, y5, y6]) rfl ⟨zeroR, rfl, TV.zero, Own.nil _ _, rfl, hB5⟩

set_option maxRecDepth 100000 in
set_option maxHeartbeats 8000000 in
theorem refDo_ft (w : World) (op : Int) (r r' : TR) (t t' : Tm) (h : TV w r t) (h' : TV w r' t') (ho : t.Ok) (ho' : t'.Ok) (y : Int) (hx : t.fltO = none) (hy : t'.fltO = some y) :
    Calls Tryz.prog 7 #[.int .i64 op, .agg #[.int .i64 r.k, .int .i64 r.n, .bool r.g, .slice r.A r.ln r.lc, .int .u64 r.u, .string r.s, .slice r.B r.m r.d], .agg #[.int .i64 r'.k, .int .i64 r'.n, .bool r'.g, .slice r'.A r'.ln r'.lc, .int .u64 r'.u, .string r'.s, .slice r'.B r'.m r'.d]] w (RfP w none) := by
  have I := (SmI.new h h').below ((Below.refl _ _).alloc (Nat.le_refl _) (.cells #[.int .i64 zeroR.k, .int .i64 zeroR.n, .bool zeroR.g, .slice zeroR.A zeroR.ln zeroR.lc, .int .u64 zeroR.u, .string zeroR.s, .slice zeroR.B zeroR.m zeroR.d] 28))
  have hz := Box7.new ((w.alloc (.cells #[.int .i64 r.k, .int .i64 r.n, .bool r.g, .slice r.A r.ln r.lc, .int .u64 r.u, .string r.s, .slice r.B r.m r.d] 28)).alloc (.cells #[.int .i64 r'.k, .int .i64 r'.n, .bool r'.g, .slice r'.A r'.ln r'.lc, .int .u64 r'.u, .string r'.s, .slice r'.B r'.m r'.d] 28)) zeroR
  simp only [World.size_alloc] at hz
  have hW : (((w.alloc (.cells #[.int .i64 r.k, .int .i64 r.n, .bool r.g, .slice r.A r.ln r.lc, .int .u64 r.u, .string r.s, .slice r.B r.m r.d] 28)).alloc (.cells #[.int .i64 r'.k, .int .i64 r'.n, .bool r'.g, .slice r'.A r'.ln r'.lc, .int .u64 r'.u, .string r'.s, .slice r'.B r'.m r'.d] 28)).alloc (.cells #[.int .i64 zeroR.k, .int .i64 zeroR.n, .bool zeroR.g, .slice zeroR.A zeroR.ln zeroR.lc, .int .u64 zeroR.u, .string zeroR.s, .slice zeroR.B zeroR.m zeroR.d] 28)).heap.size = w.heap.size + 3 := by simp
  go_enter Tryz.func7, Tryz.ntmps7
  go_wp2_with fail
  generalize ((w.alloc (.cells #[.int .i64 r.k, .int .i64 r.n, .bool r.g, .slice r.A r.ln r.lc, .int .u64 r.u, .string r.s, .slice r.B r.m r.d] 28)).alloc (.cells #[.int .i64 r'.k, .int .i64 r'.n, .bool r'.g, .slice r'.A r'.ln r'.lc, .int .u64 r'.u, .string r'.s, .slice r'.B r'.m r'.d] 28)).alloc (.cells #[.int .i64 zeroR.k, .int .i64 zeroR.n, .bool zeroR.g, .slice zeroR.A zeroR.ln zeroR.lc, .int .u64 zeroR.u, .string zeroR.s, .slice zeroR.B zeroR.m zeroR.d] 28) = W at *
  refine (refFloat_no W r t I.tv ho hx).mono ?_
  rintro e w1 ⟨⟨x, rfl⟩, hb1⟩
  have J1 := I.below hb1
  have K1 := hz.below hb1
  have hsw1 := hb1.size
  clear I hz
  have y0 := J1.ix.at.c0; have y1 := J1.ix.at.c1; have y2 := J1.ix.at.c2; have y3 := J1.ix.at.c3; have y4 := J1.ix.at.c4; have y5 := J1.ix.at.c5; have y6 := J1.ix.at.c6
  go_wp2_with fail
  refine (refFloat_yes w1 r' t' y J1.tw ho' hy).mono ?_
  rintro e w2 ⟨rfl, hb2⟩
  have J2 := J1.below hb2
  have K2 := K1.below hb2
  have hsw2 := hb2.size
  clear J1 K1
  clear y0 y1 y2 y3 y4 y5 y6
  have f0 := K2.frozen 0; have f1 := K2.frozen 1; have f2 := K2.frozen 2; have f3 := K2.frozen 3; have f4 := K2.frozen 4; have f5 := K2.frozen 5; have f6 := K2.frozen 6; have q0 := K2.at.c0; have q1 := K2.at.c1; have q2 := K2.at.c2; have q3 := K2.at.c3; have q4 := K2.at.c4; have q5 := K2.at.c5; have q6 := K2.at.c6
  go_wp2
  have C := (K2.put zeroR).at
  have hB5 := J2.be.put7 (g := w.heap.size + 1 + 1) (by omega) zeroR
  have y0 := C.c0; have y1 := C.c1; have y2 := C.c2; have y3 := C.c3; have y4 := C.c4; have y5 := C.c5; have y6 := C.c6
  clear C f0 f1 f2 f3 f4 f5 f6 q0 q1 q2 q3 q4 q5 q6
  change bodyPost _ _ _ _ _ (put7 w2 (w.heap.size + 1 + 1) zeroR)
  generalize put7 w2 (w.heap.size + 1 + 1) zeroR = W5 at *
  exact bodyPost_ret (v := .tuple #[.agg #[.int .i64 zeroR.k, .int .i64 zeroR.n, .bool zeroR.g, .slice zeroR.A zeroR.ln zeroR.lc, .int .u64 zeroR.u, .string zeroR.s, .slice zeroR.B zeroR.m zeroR.d], .int .i64 1]) (by simp [results, Tryz.results7, go_sem, y0, y1, y2, y3, y4, y5, y6]) rfl ⟨zeroR, rfl, TV.zero, Own.nil _ _, rfl, hB5⟩

set_option maxRecDepth 100000 in
set_option maxHeartbeats 8000000 in
theorem refDo_tf (w : World) (op : Int) (r r' : TR) (t t' : Tm) (h : TV w r t) (h' : TV w r' t') (ho : t.Ok) (ho' : t'.Ok) (x : Int) (hx : t.fltO = some x) (hy : t'.fltO = none) :
    Calls Tryz.prog 7 #[.int .i64 op, .agg #[.int .i64 r.k, .int .i64 r.n, .bool r.g, .slice r.A r.ln r.lc, .int .u64 r.u, .string r.s, .slice r.B r.m r.d], .agg #[.int .i64 r'.k, .int .i64 r'.n, .bool r'.g, .slice r'.A r'.ln r'.lc, .int .u64 r'.u, .string r'.s, .slice r'.B r'.m r'.d]] w (RfP w none) := by
  have I := (SmI.new h h').below ((Below.refl _ _).alloc (Nat.le_refl _) (.cells #[.int .i64 zeroR.k, .int .i64 zeroR.n, .bool zeroR.g, .slice zeroR.A zeroR.ln zeroR.lc, .int .u64 zeroR.u, .string zeroR.s, .slice zeroR.B zeroR.m zeroR.d] 28))
  have hz := Box7.new ((w.alloc (.cells #[.int .i64 r.k, .int .i64 r.n, .bool r.g, .slice r.A r.ln r.lc, .int .u64 r.u, .string r.s, .slice r.B r.m r.d] 28)).alloc (.cells #[.int .i64 r'.k, .int .i64 r'.n, .bool r'.g, .slice r'.A r'.ln r'.lc, .int .u64 r'.u, .string r'.s, .slice r'.B r'.m r'.d] 28)) zeroR
  simp only [World.size_alloc] at hz
  have hW : (((w.alloc (.cells #[.int .i64 r.k, .int .i64 r.n, .bool r.g, .slice r.A r.ln r.lc, .int .u64 r.u, .string r.s, .slice r.B r.m r.d] 28)).alloc (.cells #[.int .i64 r'.k, .int .i64 r'.n, .bool r'.g, .slice r'.A r'.ln r'.lc, .int .u64 r'.u, .string r'.s, .slice r'.B r'.m r'.d] 28)).alloc (.cells #[.int .i64 zeroR.k, .int .i64 zeroR.n, .bool zeroR.g, .slice zeroR.A zeroR.ln zeroR.lc, .int .u64 zeroR.u, .string zeroR.s, .slice zeroR.B zeroR.m zeroR.d] 28)).heap.size = w.heap.size + 3 := by simp
  go_enter Tryz.func7, Tryz.ntmps7
  go_wp2_with fail
  generalize ((w.alloc (.cells #[.int .i64 r.k, .int .i64 r.n, .bool r.g, .slice r.A r.ln r.lc, .int .u64 r.u, .string r.s, .slice r.B r.m r.d] 28)).alloc (.cells #[.int .i64 r'.k, .int .i64 r'.n, .bool r'.g, .slice r'.A r'.ln r'.lc, .int .u64 r'.u, .string r'.s, .slice r'.B r'.m r'.d] 28)).alloc (.cells #[.int .i64 zeroR.k, .int .i64 zeroR.n, .bool zeroR.g, .slice zeroR.A zeroR.ln zeroR.lc, .int .u64 zeroR.u, .string zeroR.s, .slice zeroR.B zeroR.m zeroR.d] 28) = W at *
  refine (refFloat_yes W r t x I.tv ho hx).mono ?_
  rintro e w1 ⟨rfl, hb1⟩
  have J1 := I.below hb1
  have K1 := hz.below hb1
  have hsw1 := hb1.size
  clear I hz
  have y0 := J1.ix.at.c0; have y1 := J1.ix.at.c1; have y2 := J1.ix.at.c2; have y3 := J1.ix.at.c3; have y4 := J1.ix.at.c4; have y5 := J1.ix.at.c5; have y6 := J1.ix.at.c6
  go_wp2_with fail
  refine (refFloat_no w1 r' t' J1.tw ho' hy).mono ?_
  rintro e w2 ⟨⟨y, rfl⟩, hb2⟩
  have J2 := J1.below hb2
  have K2 := K1.below hb2
  have hsw2 := hb2.size
  clear J1 K1
  clear y0 y1 y2 y3 y4 y5 y6
  have f0 := K2.frozen 0; have f1 := K2.frozen 1; have f2 := K2.frozen 2; have f3 := K2.frozen 3; have f4 := K2.frozen 4; have f5 := K2.frozen 5; have f6 := K2.frozen 6; have q0 := K2.at.c0; have q1 := K2.at.c1; have q2 := K2.at.c2; have q3 := K2.at.c3; have q4 := K2.at.c4; have q5 := K2.at.c5; have q6 := K2.at.c6
  go_wp2
  have C := (K2.put zeroR).at
  have hB5 := J2.be.put7 (g := w.heap.size + 1 + 1) (by omega) zeroR
  have y0 := C.c0; have y1 := C.c1; have y2 := C.c2; have y3 := C.c3; have y4 := C.c4; have y5 := C.c5; have y6 := C.c6
  clear C f0 f1 f2 f3 f4 f5 f6 q0 q1 q2 q3 q4 q5 q6
  change bodyPost _ _ _ _ _ (put7 w2 (w.heap.size + 1 + 1) zeroR)
  generalize put7 w2 (w.heap.size + 1 + 1) zeroR = W5 at *
  exact bodyPost_ret (v := .tuple #[.agg #[.int .i64 zeroR.k, .int .i64 zeroR.n, .bool zeroR.g, .slice zeroR.A zeroR.ln zeroR.lc, .int .u64 zeroR.u, .string zeroR.s, .slice zeroR.B zeroR.m zeroR.d], .int .i64 1]) (by simp [results, Tryz.results7, go_sem, y0, y1, y2, y3, y4, y5, y6]) rfl ⟨zeroR, rfl, TV.zero, Own.nil _ _, rfl, hB5⟩

set_option maxRecDepth 100000 in
set_option maxHeartbeats 8000000 in
theorem refDo_lo (w : World) (op : Int) (r r' : TR) (t t' : Tm) (h : TV w r t) (h' : TV w r' t') (ho : t.Ok) (ho' : t'.Ok) (x y : Int) (hx : t.fltO = some x) (hy : t'.fltO = some y) (hop : op < 5) :
    Calls Tryz.prog 7 #[.int .i64 op, .agg #[.int .i64 r.k, .int .i64 r.n, .bool r.g, .slice r.A r.ln r.lc, .int .u64 r.u, .string r.s, .slice r.B r.m r.d], .agg #[.int .i64 r'.k, .int .i64 r'.n, .bool r'.g, .slice r'.A r'.ln r'.lc, .int .u64 r'.u, .string r'.s, .slice r'.B r'.m r'.d]] w (RfP w none) := by
  have e1 : decide (op < 5) = true := decide_eq_true hop
  have I := (SmI.new h h').below ((Below.refl _ _).alloc (Nat.le_refl _) (.cells #[.int .i64 zeroR.k, .int .i64 zeroR.n, .bool zeroR.g, .slice zeroR.A zeroR.ln zeroR.lc, .int .u64 zeroR.u, .string zeroR.s, .slice zeroR.B zeroR.m zeroR.d] 28))
  have hz := Box7.new ((w.alloc (.cells #[.int .i64 r.k, .int .i64 r.n, .bool r.g, .slice r.A r.ln r.lc, .int .u64 r.u, .string r.s, .slice r.B r.m r.d] 28)).alloc (.cells #[.int .i64 r'.k, .int .i64 r'.n, .bool r'.g, .slice r'.A r'.ln r'.lc, .int .u64 r'.u, .string r'.s, .slice r'.B r'.m r'.d] 28)) zeroR
  simp only [World.size_alloc] at hz
  have hW : (((w.alloc (.cells #[.int .i64 r.k, .int .i64 r.n, .bool r.g, .slice r.A r.ln r.lc, .int .u64 r.u, .string r.s, .slice r.B r.m r.d] 28)).alloc (.cells #[.int .i64 r'.k, .int .i64 r'.n, .bool r'.g, .slice r'.A r'.ln r'.lc, .int .u64 r'.u, .string r'.s, .slice r'.B r'.m r'.d] 28)).alloc (.cells #[.int .i64 zeroR.k, .int .i64 zeroR.n, .bool zeroR.g, .slice zeroR.A zeroR.ln zeroR.lc, .int .u64 zeroR.u, .string zeroR.s, .slice zeroR.B zeroR.m zeroR.d] 28)).heap.size = w.heap.size + 3 := by simp
  go_enter Tryz.func7, Tryz.ntmps7
  go_wp2_with fail
  generalize ((w.alloc (.cells #[.int .i64 r.k, .int .i64 r.n, .bool r.g, .slice r.A r.ln r.lc, .int .u64 r.u, .string r.s, .slice r.B r.m r.d] 28)).alloc (.cells #[.int .i64 r'.k, .int .i64 r'.n, .bool r'.g, .slice r'.A r'.ln r'.lc, .int .u64 r'.u, .string r'.s, .slice r'.B r'.m r'.d] 28)).alloc (.cells #[.int .i64 zeroR.k, .int .i64 zeroR.n, .bool zeroR.g, .slice zeroR.A zeroR.ln zeroR.lc, .int .u64 zeroR.u, .string zeroR.s, .slice zeroR.B zeroR.m zeroR.d] 28) = W at *
  refine (refFloat_yes W r t x I.tv ho hx).mono ?_
  rintro e w1 ⟨rfl, hb1⟩
  have J1 := I.below hb1
  have K1 := hz.below hb1
  have hsw1 := hb1.size
  clear I hz
  have y0 := J1.ix.at.c0; have y1 := J1.ix.at.c1; have y2 := J1.ix.at.c2; have y3 := J1.ix.at.c3; have y4 := J1.ix.at.c4; have y5 := J1.ix.at.c5; have y6 := J1.ix.at.c6
  go_wp2_with fail
  refine (refFloat_yes w1 r' t' y J1.tw ho' hy).mono ?_
  rintro e w2 ⟨rfl, hb2⟩
  have J2 := J1.below hb2
  have K2 := K1.below hb2
  have hsw2 := hb2.size
  clear J1 K1
  clear y0 y1 y2 y3 y4 y5 y6
  have f0 := K2.frozen 0; have f1 := K2.frozen 1; have f2 := K2.frozen 2; have f3 := K2.frozen 3; have f4 := K2.frozen 4; have f5 := K2.frozen 5; have f6 := K2.frozen 6; have q0 := K2.at.c0; have q1 := K2.at.c1; have q2 := K2.at.c2; have q3 := K2.at.c3; have q4 := K2.at.c4; have q5 := K2.at.c5; have q6 := K2.at.c6
  go_wp2
  have C := (K2.put zeroR).at
  have hB5 := J2.be.put7 (g := w.heap.size + 1 + 1) (by omega) zeroR
  have y0 := C.c0; have y1 := C.c1; have y2 := C.c2; have y3 := C.c3; have y4 := C.c4; have y5 := C.c5; have y6 := C.c6
  clear C f0 f1 f2 f3 f4 f5 f6 q0 q1 q2 q3 q4 q5 q6
  change bodyPost _ _ _ _ _ (put7 w2 (w.heap.size + 1 + 1) zeroR)
  generalize put7 w2 (w.heap.size + 1 + 1) zeroR = W5 at *
  exact bodyPost_ret (v := .tuple #[.agg #[.int .i64 zeroR.k, .int .i64 zeroR.n, .bool zeroR.g, .slice zeroR.A zeroR.ln zeroR.lc, .int .u64 zeroR.u, .string zeroR.s, .slice zeroR.B zeroR.m zeroR.d], .int .i64 1]) (by simp [results, Tryz.results7, go_sem, y0, y1, y2, y3, y4, y5, y6]) rfl ⟨zeroR, rfl, TV.zero, Own.nil _ _, rfl, hB5⟩

set_option maxRecDepth 100000 in
set_option maxHeartbeats 8000000 in
theorem refDo_hi (w : World) (op : Int) (r r' : TR) (t t' : Tm) (h : TV w r t) (h' : TV w r' t') (ho : t.Ok) (ho' : t'.Ok) (x y : Int) (hx : t.fltO = some x) (hy : t'.fltO = some y) (hop : 8 < op) :
    Calls Tryz.prog 7 #[.int .i64 op, .agg #[.int .i64 r.k, .int .i64 r.n, .bool r.g, .slice r.A r.ln r.lc, .int .u64 r.u, .string r.s, .slice r.B r.m r.d], .agg #[.int .i64 r'.k, .int .i64 r'.n, .bool r'.g, .slice r'.A r'.ln r'.lc, .int .u64 r'.u, .string r'.s, .slice r'.B r'.m r'.d]] w (RfP w none) := by
  have e0 : ¬ op < 5 := by omega
  have e1 : decide (op < 5) = false := decide_eq_false (by omega)
  have e2 : decide (8 < op) = true := decide_eq_true hop
  have I := (SmI.new h h').below ((Below.refl _ _).alloc (Nat.le_refl _) (.cells #[.int .i64 zeroR.k, .int .i64 zeroR.n, .bool zeroR.g, .slice zeroR.A zeroR.ln zeroR.lc, .int .u64 zeroR.u, .string zeroR.s, .slice zeroR.B zeroR.m zeroR.d] 28))
  have hz := Box7.new ((w.alloc (.cells #[.int .i64 r.k, .int .i64 r.n, .bool r.g, .slice r.A r.ln r.lc, .int .u64 r.u, .string r.s, .slice r.B r.m r.d] 28)).alloc (.cells #[.int .i64 r'.k, .int .i64 r'.n, .bool r'.g, .slice r'.A r'.ln r'.lc, .int .u64 r'.u, .string r'.s, .slice r'.B r'.m r'.d] 28)) zeroR
  simp only [World.size_alloc] at hz
  have hW : (((w.alloc (.cells #[.int .i64 r.k, .int .i64 r.n, .bool r.g, .slice r.A r.ln r.lc, .int .u64 r.u, .string r.s, .slice r.B r.m r.d] 28)).alloc (.cells #[.int .i64 r'.k, .int .i64 r'.n, .bool r'.g, .slice r'.A r'.ln r'.lc, .int .u64 r'.u, .string r'.s, .slice r'.B r'.m r'.d] 28)).alloc (.cells #[.int .i64 zeroR.k, .int .i64 zeroR.n, .bool zeroR.g, .slice zeroR.A zeroR.ln zeroR.lc, .int .u64 zeroR.u, .string zeroR.s, .slice zeroR.B zeroR.m zeroR.d] 28)).heap.size = w.heap.size + 3 := by simp
  go_enter Tryz.func7, Tryz.ntmps7
  go_wp2_with fail
  generalize ((w.alloc (.cells #[.int .i64 r.k, .int .i64 r.n, .bool r.g, .slice r.A r.ln r.lc, .int .u64 r.u, .string r.s, .slice r.B r.m r.d] 28)).alloc (.cells #[.int .i64 r'.k, .int .i64 r'.n, .bool r'.g, .slice r'.A r'.ln r'.lc, .int .u64 r'.u, .string r'.s, .slice r'.B r'.m r'.d] 28)).alloc (.cells #[.int .i64 zeroR.k, .int .i64 zeroR.n, .bool zeroR.g, .slice zeroR.A zeroR.ln zeroR.lc, .int .u64 zeroR.u, .string zeroR.s, .slice zeroR.B zeroR.m zeroR.d] 28) = W at *
  refine (refFloat_yes W r t x I.tv ho hx).mono ?_
  rintro e w1 ⟨rfl, hb1⟩
  have J1 := I.below hb1
  have K1 := hz.below hb1
  have hsw1 := hb1.size
  clear I hz
  have y0 := J1.ix.at.c0; have y1 := J1.ix.at.c1; have y2 := J1.ix.at.c2; have y3 := J1.ix.at.c3; have y4 := J1.ix.at.c4; have y5 := J1.ix.at.c5; have y6 := J1.ix.at.c6
  go_wp2_with fail
  refine (refFloat_yes w1 r' t' y J1.tw ho' hy).mono ?_
  rintro e w2 ⟨rfl, hb2⟩
  have J2 := J1.below hb2
  have K2 := K1.below hb2
  have hsw2 := hb2.size
  clear J1 K1
  clear y0 y1 y2 y3 y4 y5 y6
  have f0 := K2.frozen 0; have f1 := K2.frozen 1; have f2 := K2.frozen 2; have f3 := K2.frozen 3; have f4 := K2.frozen 4; have f5 := K2.frozen 5; have f6 := K2.frozen 6; have q0 := K2.at.c0; have q1 := K2.at.c1; have q2 := K2.at.c2; have q3 := K2.at.c3; have q4 := K2.at.c4; have q5 := K2.at.c5; have q6 := K2.at.c6
  go_wp2
  have C := (K2.put zeroR).at
  have hB5 := J2.be.put7 (g := w.heap.size + 1 + 1) (by omega) zeroR
  have y0 := C.c0; have y1 := C.c1; have y2 := C.c2; have y3 := C.c3; have y4 := C.c4; have y5 := C.c5; have y6 := C.c6
  clear C f0 f1 f2 f3 f4 f5 f6 q0 q1 q2 q3 q4 q5 q6
  change bodyPost _ _ _ _ _ (put7 w2 (w.heap.size + 1 + 1) zeroR)
  generalize put7 w2 (w.heap.size + 1 + 1) zeroR = W5 at *
  exact bodyPost_ret (v := .tuple #[.agg #[.int .i64 zeroR.k, .int .i64 zeroR.n, .bool zeroR.g, .slice zeroR.A zeroR.ln zeroR.lc, .int .u64 zeroR.u, .string zeroR.s, .slice zeroR.B zeroR.m zeroR.d], .int .i64 1]) (by simp [results, Tryz.results7, go_sem, y0, y1, y2, y3, y4, y5, y6]) rfl ⟨zeroR, rfl, TV.zero, Own.nil _ _, rfl, hB5⟩

set_option maxRecDepth 100000 in
set_option maxHeartbeats 8000000 in
theorem refDo_int5 (w : World) (op : Int) (r r' : TR) (t t' : Tm) (h : TV w r t) (h' : TV w r' t') (ho : t.Ok) (ho' : t'.Ok) (hop : op = 5) (x y a b : Int) (hx : t.fltO = some x) (hy : t'.fltO = some y) (ha : t.intO = some a) (hb : t'.intO = some b) (k1 : t.kind ≠ 3) (k2 : t'.kind ≠ 3) :
    Calls Tryz.prog 7 #[.int .i64 op, .agg #[.int .i64 r.k, .int .i64 r.n, .bool r.g, .slice r.A r.ln r.lc, .int .u64 r.u, .string r.s, .slice r.B r.m r.d], .agg #[.int .i64 r'.k, .int .i64 r'.n, .bool r'.g, .slice r'.A r'.ln r'.lc, .int .u64 r'.u, .string r'.s, .slice r'.B r'.m r'.d]] w (RfP w ((whO op a b).map intT)) := by
  subst hop
  rw [h.kind] at k1
  rw [h'.kind] at k2
  have e3 : (r.k != 3) = true := bne_iff_ne.2 k1
  have e3' : (r'.k != 3) = true := bne_iff_ne.2 k2
  have ta := intO_top h ha
  have tb := intO_top h' hb
  have I := (SmI.new h h').below ((Below.refl _ _).alloc (Nat.le_refl _) (.cells #[.int .i64 zeroR.k, .int .i64 zeroR.n, .bool zeroR.g, .slice zeroR.A zeroR.ln zeroR.lc, .int .u64 zeroR.u, .string zeroR.s, .slice zeroR.B zeroR.m zeroR.d] 28))
  have hz := Box7.new ((w.alloc (.cells #[.int .i64 r.k, .int .i64 r.n, .bool r.g, .slice r.A r.ln r.lc, .int .u64 r.u, .string r.s, .slice r.B r.m r.d] 28)).alloc (.cells #[.int .i64 r'.k, .int .i64 r'.n, .bool r'.g, .slice r'.A r'.ln r'.lc, .int .u64 r'.u, .string r'.s, .slice r'.B r'.m r'.d] 28)) zeroR
  simp only [World.size_alloc] at hz
  have hW : (((w.alloc (.cells #[.int .i64 r.k, .int .i64 r.n, .bool r.g, .slice r.A r.ln r.lc, .int .u64 r.u, .string r.s, .slice r.B r.m r.d] 28)).alloc (.cells #[.int .i64 r'.k, .int .i64 r'.n, .bool r'.g, .slice r'.A r'.ln r'.lc, .int .u64 r'.u, .string r'.s, .slice r'.B r'.m r'.d] 28)).alloc (.cells #[.int .i64 zeroR.k, .int .i64 zeroR.n, .bool zeroR.g, .slice zeroR.A zeroR.ln zeroR.lc, .int .u64 zeroR.u, .string zeroR.s, .slice zeroR.B zeroR.m zeroR.d] 28)).heap.size = w.heap.size + 3 := by simp
  go_enter Tryz.func7, Tryz.ntmps7
  go_wp2_with fail
  generalize ((w.alloc (.cells #[.int .i64 r.k, .int .i64 r.n, .bool r.g, .slice r.A r.ln r.lc, .int .u64 r.u, .string r.s, .slice r.B r.m r.d] 28)).alloc (.cells #[.int .i64 r'.k, .int .i64 r'.n, .bool r'.g, .slice r'.A r'.ln r'.lc, .int .u64 r'.u, .string r'.s, .slice r'.B r'.m r'.d] 28)).alloc (.cells #[.int .i64 zeroR.k, .int .i64 zeroR.n, .bool zeroR.g, .slice zeroR.A zeroR.ln zeroR.lc, .int .u64 zeroR.u, .string zeroR.s, .slice zeroR.B zeroR.m zeroR.d] 28) = W at *
  refine (refFloat_yes W r t x I.tv ho hx).mono ?_
  rintro e w1 ⟨rfl, hb1⟩
  have J1 := I.below hb1
  have K1 := hz.below hb1
  have hsw1 := hb1.size
  clear I hz
  have y0 := J1.ix.at.c0; have y1 := J1.ix.at.c1; have y2 := J1.ix.at.c2; have y3 := J1.ix.at.c3; have y4 := J1.ix.at.c4; have y5 := J1.ix.at.c5; have y6 := J1.ix.at.c6
  go_wp2_with fail
  refine (refFloat_yes w1 r' t' y J1.tw ho' hy).mono ?_
  rintro e w2 ⟨rfl, hb2⟩
  have J2 := J1.below hb2
  have K2 := K1.below hb2
  have hsw2 := hb2.size
  clear J1 K1
  clear y0 y1 y2 y3 y4 y5 y6
  have hx1 := J2
  have y0 := J2.bx.at.c0; have y1 := J2.bx.at.c1; have y2 := J2.bx.at.c2; have y3 := J2.bx.at.c3; have y4 := J2.bx.at.c4; have y5 := J2.bx.at.c5; have y6 := J2.bx.at.c6; have x0 := J2.ix.at.c0; have x1 := J2.ix.at.c1; have x2 := J2.ix.at.c2; have x3 := J2.ix.at.c3; have x4 := J2.ix.at.c4; have x5 := J2.ix.at.c5; have x6 := J2.ix.at.c6
  go_wp2_with fail
  refine (refNum_z w2 r t a J2.tv ho ha).mono ?_
  rintro e w3 ⟨s, A, n, c, rfl, hN, hb3⟩
  have al := (Below.refl w3.heap.size w3).alloc (Nat.le_refl _) (.cells #[.bool s, .slice A n c] 24)
  have BA := Box.new w3 (.bool s) (.slice A n c)
  have N1 := hN.below al
  have J3 := (J2.below hb3).below al
  have K3 := (K2.below hb3).below al
  have hs3 : w2.heap.size ≤ (w3.alloc (.cells #[.bool s, .slice A n c] 24)).heap.size := Nat.le_trans hb3.size al.size
  clear y0 y1 y2 y3 y4 y5 y6 x0 x1 x2 x3 x4 x5 x6 J2 K2 hN al hx1
  go_upto_region 7 with fail
  generalize w3.alloc (.cells #[.bool s, .slice A n c] 24) = W3 at *
  have x0 := J3.ix.at.c0; have x1 := J3.ix.at.c1; have x2 := J3.ix.at.c2; have x3 := J3.ix.at.c3; have x4 := J3.ix.at.c4; have x5 := J3.ix.at.c5; have x6 := J3.ix.at.c6
  go_wp2_with fail
  refine (refNum_z W3 r' t' b J3.tw ho' hb).mono ?_
  rintro e w4 ⟨s', B, m, d, rfl, hN', hb4⟩
  have al := (Below.refl w4.heap.size w4).alloc (Nat.le_refl _) (.cells #[.bool s', .slice B m d] 24)
  have BB := Box.new w4 (.bool s') (.slice B m d)
  have N2 := hN'.below al
  have M1 := (N1.below hb4).below al
  have BA2 := (BA.below' hb4).below' al
  have J4 := (J3.below hb4).below al
  have K4 := (K3.below hb4).below al
  have hs4 : W3.heap.size ≤ (w4.alloc (.cells #[.bool s', .slice B m d] 24)).heap.size := Nat.le_trans hb4.size al.size
  clear x0 x1 x2 x3 x4 x5 x6 J3 K3 hN' al N1 BA
  go_upto_region 8 with fail
  generalize w4.alloc (.cells #[.bool s', .slice B m d] 24) = W4 at *
  have p0 := BA2.c0
  have p1 := BA2.c1
  have p2 := BB.c0
  have p3 := BB.c1
  go_wp2_with fail
  refine (refWh_any W4 5 s s' A B n c m d a b M1 N2 ta tb (by decide)).mono ?_
  rintro e w5 ⟨R, he, hT, hO, hm0, hb5⟩
  obtain ⟨E, hE⟩ : ∃ E, E = rsO ((whO 5 a b).map intT) := ⟨_, rfl⟩
  rw [← hE] at he
  subst he
  have HE := Lib.hid hE
  have TT := Lib.hid hT
  have OO := Lib.hid hO
  have MM := Lib.hid hm0
  have J5 := J4.below hb5
  have K5 := K4.below hb5
  have hs5 := hb5.size
  clear hE hT hO hm0 J4 K4 p0 p1 p2 p3
  have f0 := K5.frozen 0; have f1 := K5.frozen 1; have f2 := K5.frozen 2; have f3 := K5.frozen 3; have f4 := K5.frozen 4; have f5 := K5.frozen 5; have f6 := K5.frozen 6; have q0 := K5.at.c0; have q1 := K5.at.c1; have q2 := K5.at.c2; have q3 := K5.at.c3; have q4 := K5.at.c4; have q5 := K5.at.c5; have q6 := K5.at.c6
  go_wp2
  have tS := TVS.leafy (S := fun b => w.heap.size + 3 ≤ b) TT.out (fun _ a e => by have o := OO.out; rw [e] at o; have := (World.ownsRow.lt o.2.2 a.block rfl).1; omega) MM.out
  have hT5 := (tS.keep ((Keeps.refl _ w5).put7 (g := w.heap.size + 1 + 1) (by omega) R)).tv
  have hO5 := OO.out.put7 (g := w.heap.size + 1 + 1) (by omega) R
  have C := (K5.put R).at
  have hB5 := J5.be.put7 (g := w.heap.size + 1 + 1) (by omega) R
  have y0 := C.c0; have y1 := C.c1; have y2 := C.c2; have y3 := C.c3; have y4 := C.c4; have y5 := C.c5; have y6 := C.c6
  clear C f0 f1 f2 f3 f4 f5 f6 q0 q1 q2 q3 q4 q5 q6 TT OO tS
  change bodyPost _ _ _ _ _ (put7 w5 (w.heap.size + 1 + 1) R)
  generalize put7 w5 (w.heap.size + 1 + 1) R = W5 at *
  exact bodyPost_ret (v := .tuple #[.agg #[.int .i64 R.k, .int .i64 R.n, .bool R.g, .slice R.A R.ln R.lc, .int .u64 R.u, .string R.s, .slice R.B R.m R.d], .int .i64 E]) (by simp [results, Tryz.results7, go_sem, y0, y1, y2, y3, y4, y5, y6]) rfl ⟨R, by rw [HE.out], hT5, hO5.mono (by omega), MM.out, hB5⟩

set_option maxRecDepth 100000 in
set_option maxHeartbeats 8000000 in
theorem refDo_int6 (w : World) (op : Int) (r r' : TR) (t t' : Tm) (h : TV w r t) (h' : TV w r' t') (ho : t.Ok) (ho' : t'.Ok) (hop : op = 6) (x y a b : Int) (hx : t.fltO = some x) (hy : t'.fltO = some y) (ha : t.intO = some a) (hb : t'.intO = some b) (k1 : t.kind ≠ 3) (k2 : t'.kind ≠ 3) :
    Calls Tryz.prog 7 #[.int .i64 op, .agg #[.int .i64 r.k, .int .i64 r.n, .bool r.g, .slice r.A r.ln r.lc, .int .u64 r.u, .string r.s, .slice r.B r.m r.d], .agg #[.int .i64 r'.k, .int .i64 r'.n, .bool r'.g, .slice r'.A r'.ln r'.lc, .int .u64 r'.u, .string r'.s, .slice r'.B r'.m r'.d]] w (RfP w ((whO op a b).map intT)) := by
  subst hop
  rw [h.kind] at k1
  rw [h'.kind] at k2
  have e3 : (r.k != 3) = true := bne_iff_ne.2 k1
  have e3' : (r'.k != 3) = true := bne_iff_ne.2 k2
  have ta := intO_top h ha
  have tb := intO_top h' hb
  have I := (SmI.new h h').below ((Below.refl _ _).alloc (Nat.le_refl _) (.cells #[.int .i64 zeroR.k, .int .i64 zeroR.n, .bool zeroR.g, .slice zeroR.A zeroR.ln zeroR.lc, .int .u64 zeroR.u, .string zeroR.s, .slice zeroR.B zeroR.m zeroR.d] 28))
  have hz := Box7.new ((w.alloc (.cells #[.int .i64 r.k, .int .i64 r.n, .bool r.g, .slice r.A r.ln r.lc, .int .u64 r.u, .string r.s, .slice r.B r.m r.d] 28)).alloc (.cells #[.int .i64 r'.k, .int .i64 r'.n, .bool r'.g, .slice r'.A r'.ln r'.lc, .int .u64 r'.u, .string r'.s, .slice r'.B r'.m r'.d] 28)) zeroR
  simp only [World.size_alloc] at hz
  have hW : (((w.alloc (.cells #[.int .i64 r.k, .int .i64 r.n, .bool r.g, .slice r.A r.ln r.lc, .int .u64 r.u, .string r.s, .slice r.B r.m r.d] 28)).alloc (.cells #[.int .i64 r'.k, .int .i64 r'.n, .bool r'.g, .slice r'.A r'.ln r'.lc, .int .u64 r'.u, .string r'.s, .slice r'.B r'.m r'.d] 28)).alloc (.cells #[.int .i64 zeroR.k, .int .i64 zeroR.n, .bool zeroR.g, .slice zeroR.A zeroR.ln zeroR.lc, .int .u64 zeroR.u, .string zeroR.s, .slice zeroR.B zeroR.m zeroR.d] 28)).heap.size = w.heap.size + 3 := by simp
  go_enter Tryz.func7, Tryz.ntmps7
  go_wp2_with fail
  generalize ((w.alloc (.cells #[.int .i64 r.k, .int .i64 r.n, .bool r.g, .slice r.A r.ln r.lc, .int .u64 r.u, .string r.s, .slice r.B r.m r.d] 28)).alloc (.cells #[.int .i64 r'.k, .int .i64 r'.n, .bool r'.g, .slice r'.A r'.ln r'.lc, .int .u64 r'.u, .string r'.s, .slice r'.B r'.m r'.d] 28)).alloc (.cells #[.int .i64 zeroR.k, .int .i64 zeroR.n, .bool zeroR.g, .slice zeroR.A zeroR.ln zeroR.lc, .int .u64 zeroR.u, .string zeroR.s, .slice zeroR.B zeroR.m zeroR.d] 28) = W at *
  refine (refFloat_yes W r t x I.tv ho hx).mono ?_
  rintro e w1 ⟨rfl, hb1⟩
  have J1 := I.below hb1
  have K1 := hz.below hb1
  have hsw1 := hb1.size
  clear I hz
  have y0 := J1.ix.at.c0; have y1 := J1.ix.at.c1; have y2 := J1.ix.at.c2; have y3 := J1.ix.at.c3; have y4 := J1.ix.at.c4; have y5 := J1.ix.at.c5; have y6 := J1.ix.at.c6
  go_wp2_with fail
  refine (refFloat_yes w1 r' t' y J1.tw ho' hy).mono ?_
  rintro e w2 ⟨rfl, hb2⟩
  have J2 := J1.below hb2
  have K2 := K1.below hb2
  have hsw2 := hb2.size
  clear J1 K1
  clear y0 y1 y2 y3 y4 y5 y6
  have hx1 := J2
  have y0 := J2.bx.at.c0; have y1 := J2.bx.at.c1; have y2 := J2.bx.at.c2; have y3 := J2.bx.at.c3; have y4 := J2.bx.at.c4; have y5 := J2.bx.at.c5; have y6 := J2.bx.at.c6; have x0 := J2.ix.at.c0; have x1 := J2.ix.at.c1; have x2 := J2.ix.at.c2; have x3 := J2.ix.at.c3; have x4 := J2.ix.at.c4; have x5 := J2.ix.at.c5; have x6 := J2.ix.at.c6
  go_wp2_with fail
  refine (refNum_z w2 r t a J2.tv ho ha).mono ?_
  rintro e w3 ⟨s, A, n, c, rfl, hN, hb3⟩
  have al := (Below.refl w3.heap.size w3).alloc (Nat.le_refl _) (.cells #[.bool s, .slice A n c] 24)
  have BA := Box.new w3 (.bool s) (.slice A n c)
  have N1 := hN.below al
  have J3 := (J2.below hb3).below al
  have K3 := (K2.below hb3).below al
  have hs3 : w2.heap.size ≤ (w3.alloc (.cells #[.bool s, .slice A n c] 24)).heap.size := Nat.le_trans hb3.size al.size
  clear y0 y1 y2 y3 y4 y5 y6 x0 x1 x2 x3 x4 x5 x6 J2 K2 hN al hx1
  go_upto_region 7 with fail
  generalize w3.alloc (.cells #[.bool s, .slice A n c] 24) = W3 at *
  have x0 := J3.ix.at.c0; have x1 := J3.ix.at.c1; have x2 := J3.ix.at.c2; have x3 := J3.ix.at.c3; have x4 := J3.ix.at.c4; have x5 := J3.ix.at.c5; have x6 := J3.ix.at.c6
  go_wp2_with fail
  refine (refNum_z W3 r' t' b J3.tw ho' hb).mono ?_
  rintro e w4 ⟨s', B, m, d, rfl, hN', hb4⟩
  have al := (Below.refl w4.heap.size w4).alloc (Nat.le_refl _) (.cells #[.bool s', .slice B m d] 24)
  have BB := Box.new w4 (.bool s') (.slice B m d)
  have N2 := hN'.below al
  have M1 := (N1.below hb4).below al
  have BA2 := (BA.below' hb4).below' al
  have J4 := (J3.below hb4).below al
  have K4 := (K3.below hb4).below al
  have hs4 : W3.heap.size ≤ (w4.alloc (.cells #[.bool s', .slice B m d] 24)).heap.size := Nat.le_trans hb4.size al.size
  clear x0 x1 x2 x3 x4 x5 x6 J3 K3 hN' al N1 BA
  go_upto_region 8 with fail
  generalize w4.alloc (.cells #[.bool s', .slice B m d] 24) = W4 at *
  have p0 := BA2.c0
  have p1 := BA2.c1
  have p2 := BB.c0
  have p3 := BB.c1
  go_wp2_with fail
  refine (refWh_any W4 6 s s' A B n c m d a b M1 N2 ta tb (by decide)).mono ?_
  rintro e w5 ⟨R, he, hT, hO, hm0, hb5⟩
  obtain ⟨E, hE⟩ : ∃ E, E = rsO ((whO 6 a b).map intT) := ⟨_, rfl⟩
  rw [← hE] at he
  subst he
  have HE := Lib.hid hE
  have TT := Lib.hid hT
  have OO := Lib.hid hO
  have MM := Lib.hid hm0
  have J5 := J4.below hb5
  have K5 := K4.below hb5
  have hs5 := hb5.size
  clear hE hT hO hm0 J4 K4 p0 p1 p2 p3
  have f0 := K5.frozen 0; have f1 := K5.frozen 1; have f2 := K5.frozen 2; have f3 := K5.frozen 3; have f4 := K5.frozen 4; have f5 := K5.frozen 5; have f6 := K5.frozen 6; have q0 := K5.at.c0; have q1 := K5.at.c1; have q2 := K5.at.c2; have q3 := K5.at.c3; have q4 := K5.at.c4; have q5 := K5.at.c5; have q6 := K5.at.c6
  go_wp2
  have tS := TVS.leafy (S := fun b => w.heap.size + 3 ≤ b) TT.out (fun _ a e => by have o := OO.out; rw [e] at o; have := (World.ownsRow.lt o.2.2 a.block rfl).1; omega) MM.out
  have hT5 := (tS.keep ((Keeps.refl _ w5).put7 (g := w.heap.size + 1 + 1) (by omega) R)).tv
  have hO5 := OO.out.put7 (g := w.heap.size + 1 + 1) (by omega) R
  have C := (K5.put R).at
  have hB5 := J5.be.put7 (g := w.heap.size + 1 + 1) (by omega) R
  have y0 := C.c0; have y1 := C.c1; have y2 := C.c2; have y3 := C.c3; have y4 := C.c4; have y5 := C.c5; have y6 := C.c6
  clear C f0 f1 f2 f3 f4 f5 f6 q0 q1 q2 q3 q4 q5 q6 TT OO tS
  change bodyPost _ _ _ _ _ (put7 w5 (w.heap.size + 1 + 1) R)
  generalize put7 w5 (w.heap.size + 1 + 1) R = W5 at *
  exact bodyPost_ret (v := .tuple #[.agg #[.int .i64 R.k, .int .i64 R.n, .bool R.g, .slice R.A R.ln R.lc, .int .u64 R.u, .string R.s, .slice R.B R.m R.d], .int .i64 E]) (by simp [results, Tryz.results7, go_sem, y0, y1, y2, y3, y4, y5, y6]) rfl ⟨R, by rw [HE.out], hT5, hO5.mono (by omega), MM.out, hB5⟩

set_option maxRecDepth 100000 in
set_option maxHeartbeats 8000000 in
theorem refDo_int7 (w : World) (op : Int) (r r' : TR) (t t' : Tm) (h : TV w r t) (h' : TV w r' t') (ho : t.Ok) (ho' : t'.Ok) (hop : op = 7) (x y a b : Int) (hx : t.fltO = some x) (hy : t'.fltO = some y) (ha : t.intO = some a) (hb : t'.intO = some b) (k1 : t.kind ≠ 3) (k2 : t'.kind ≠ 3) :
    Calls Tryz.prog 7 #[.int .i64 op, .agg #[.int .i64 r.k, .int .i64 r.n, .bool r.g, .slice r.A r.ln r.lc, .int .u64 r.u, .string r.s, .slice r.B r.m r.d], .agg #[.int .i64 r'.k, .int .i64 r'.n, .bool r'.g, .slice r'.A r'.ln r'.lc, .int .u64 r'.u, .string r'.s, .slice r'.B r'.m r'.d]] w (RfP w ((whO op a b).map intT)) := by
  subst hop
  rw [h.kind] at k1
  rw [h'.kind] at k2
  have e3 : (r.k != 3) = true := bne_iff_ne.2 k1
  have e3' : (r'.k != 3) = true := bne_iff_ne.2 k2
  have ta := intO_top h ha
  have tb := intO_top h' hb
  have I := (SmI.new h h').below ((Below.refl _ _).alloc (Nat.le_refl _) (.cells #[.int .i64 zeroR.k, .int .i64 zeroR.n, .bool zeroR.g, .slice zeroR.A zeroR.ln zeroR.lc, .int .u64 zeroR.u, .string zeroR.s, .slice zeroR.B zeroR.m zeroR.d] 28))
  have hz := Box7.new ((w.alloc (.cells #[.int .i64 r.k, .int .i64 r.n, .bool r.g, .slice r.A r.ln r.lc, .int .u64 r.u, .string r.s, .slice r.B r.m r.d] 28)).alloc (.cells #[.int .i64 r'.k, .int .i64 r'.n, .bool r'.g, .slice r'.A r'.ln r'.lc, .int .u64 r'.u, .string r'.s, .slice r'.B r'.m r'.d] 28)) zeroR
  simp only [World.size_alloc] at hz
  have hW : (((w.alloc (.cells #[.int .i64 r.k, .int .i64 r.n, .bool r.g, .slice r.A r.ln r.lc, .int .u64 r.u, .string r.s, .slice r.B r.m r.d] 28)).alloc (.cells #[.int .i64 r'.k, .int .i64 r'.n, .bool r'.g, .slice r'.A r'.ln r'.lc, .int .u64 r'.u, .string r'.s, .slice r'.B r'.m r'.d] 28)).alloc (.cells #[.int .i64 zeroR.k, .int .i64 zeroR.n, .bool zeroR.g, .slice zeroR.A zeroR.ln zeroR.lc, .int .u64 zeroR.u, .string zeroR.s, .slice zeroR.B zeroR.m zeroR.d] 28)).heap.size = w.heap.size + 3 := by simp
  go_enter Tryz.func7, Tryz.ntmps7
  go_wp2_with fail
  generalize ((w.alloc (.cells #[.int .i64 r.k, .int .i64 r.n, .bool r.g, .slice r.A r.ln r.lc, .int .u64 r.u, .string r.s, .slice r.B r.m r.d] 28)).alloc (.cells #[.int .i64 r'.k, .int .i64 r'.n, .bool r'.g, .slice r'.A r'.ln r'.lc, .int .u64 r'.u, .string r'.s, .slice r'.B r'.m r'.d] 28)).alloc (.cells #[.int .i64 zeroR.k, .int .i64 zeroR.n, .bool zeroR.g, .slice zeroR.A zeroR.ln zeroR.lc, .int .u64 zeroR.u, .string zeroR.s, .slice zeroR.B zeroR.m zeroR.d] 28) = W at *
  refine (refFloat_yes W r t x I.tv ho hx).mono ?_
  rintro e w1 ⟨rfl, hb1⟩
  have J1 := I.below hb1
  have K1 := hz.below hb1
  have hsw1 := hb1.size
  clear I hz
  have y0 := J1.ix.at.c0; have y1 := J1.ix.at.c1; have y2 := J1.ix.at.c2; have y3 := J1.ix.at.c3; have y4 := J1.ix.at.c4; have y5 := J1.ix.at.c5; have y6 := J1.ix.at.c6
  go_wp2_with fail
  refine (refFloat_yes w1 r' t' y J1.tw ho' hy).mono ?_
  rintro e w2 ⟨rfl, hb2⟩
  have J2 := J1.below hb2
  have K2 := K1.below hb2
  have hsw2 := hb2.size
  clear J1 K1
  clear y0 y1 y2 y3 y4 y5 y6
  have hx1 := J2
  have y0 := J2.bx.at.c0; have y1 := J2.bx.at.c1; have y2 := J2.bx.at.c2; have y3 := J2.bx.at.c3; have y4 := J2.bx.at.c4; have y5 := J2.bx.at.c5; have y6 := J2.bx.at.c6; have x0 := J2.ix.at.c0; have x1 := J2.ix.at.c1; have x2 := J2.ix.at.c2; have x3 := J2.ix.at.c3; have x4 := J2.ix.at.c4; have x5 := J2.ix.at.c5; have x6 := J2.ix.at.c6
  go_wp2_with fail
  refine (refNum_z w2 r t a J2.tv ho ha).mono ?_
  rintro e w3 ⟨s, A, n, c, rfl, hN, hb3⟩
  have al := (Below.refl w3.heap.size w3).alloc (Nat.le_refl _) (.cells #[.bool s, .slice A n c] 24)
  have BA := Box.new w3 (.bool s) (.slice A n c)
  have N1 := hN.below al
  have J3 := (J2.below hb3).below al
  have K3 := (K2.below hb3).below al
  have hs3 : w2.heap.size ≤ (w3.alloc (.cells #[.bool s, .slice A n c] 24)).heap.size := Nat.le_trans hb3.size al.size
  clear y0 y1 y2 y3 y4 y5 y6 x0 x1 x2 x3 x4 x5 x6 J2 K2 hN al hx1
  go_upto_region 7 with fail
  generalize w3.alloc (.cells #[.bool s, .slice A n c] 24) = W3 at *
  have x0 := J3.ix.at.c0; have x1 := J3.ix.at.c1; have x2 := J3.ix.at.c2; have x3 := J3.ix.at.c3; have x4 := J3.ix.at.c4; have x5 := J3.ix.at.c5; have x6 := J3.ix.at.c6
  go_wp2_with fail
  refine (refNum_z W3 r' t' b J3.tw ho' hb).mono ?_
  rintro e w4 ⟨s', B, m, d, rfl, hN', hb4⟩
  have al := (Below.refl w4.heap.size w4).alloc (Nat.le_refl _) (.cells #[.bool s', .slice B m d] 24)
  have BB := Box.new w4 (.bool s') (.slice B m d)
  have N2 := hN'.below al
  have M1 := (N1.below hb4).below al
  have BA2 := (BA.below' hb4).below' al
  have J4 := (J3.below hb4).below al
  have K4 := (K3.below hb4).below al
  have hs4 : W3.heap.size ≤ (w4.alloc (.cells #[.bool s', .slice B m d] 24)).heap.size := Nat.le_trans hb4.size al.size
  clear x0 x1 x2 x3 x4 x5 x6 J3 K3 hN' al N1 BA
  go_upto_region 8 with fail
  generalize w4.alloc (.cells #[.bool s', .slice B m d] 24) = W4 at *
  have p0 := BA2.c0
  have p1 := BA2.c1
  have p2 := BB.c0
  have p3 := BB.c1
  go_wp2_with fail
  refine (refWh_any W4 7 s s' A B n c m d a b M1 N2 ta tb (by decide)).mono ?_
  rintro e w5 ⟨R, he, hT, hO, hm0, hb5⟩
  obtain ⟨E, hE⟩ : ∃ E, E = rsO ((whO 7 a b).map intT) := ⟨_, rfl⟩
  rw [← hE] at he
  subst he
  have HE := Lib.hid hE
  have TT := Lib.hid hT
  have OO := Lib.hid hO
  have MM := Lib.hid hm0
  have J5 := J4.below hb5
  have K5 := K4.below hb5
  have hs5 := hb5.size
  clear hE hT hO hm0 J4 K4 p0 p1 p2 p3
  have f0 := K5.frozen 0; have f1 := K5.frozen 1; have f2 := K5.frozen 2; have f3 := K5.frozen 3; have f4 := K5.frozen 4; have f5 := K5.frozen 5; have f6 := K5.frozen 6; have q0 := K5.at.c0; have q1 := K5.at.c1; have q2 := K5.at.c2; have q3 := K5.at.c3; have q4 := K5.at.c4; have q5 := K5.at.c5; have q6 := K5.at.c6
  go_wp2
  have tS := TVS.leafy (S := fun b => w.heap.size + 3 ≤ b) TT.out (fun _ a e => by have o := OO.out; rw [e] at o; have := (World.ownsRow.lt o.2.2 a.block rfl).1; omega) MM.out
  have hT5 := (tS.keep ((Keeps.refl _ w5).put7 (g := w.heap.size + 1 + 1) (by omega) R)).tv
  have hO5 := OO.out.put7 (g := w.heap.size + 1 + 1) (by omega) R
  have C := (K5.put R).at
  have hB5 := J5.be.put7 (g := w.heap.size + 1 + 1) (by omega) R
  have y0 := C.c0; have y1 := C.c1; have y2 := C.c2; have y3 := C.c3; have y4 := C.c4; have y5 := C.c5; have y6 := C.c6
  clear C f0 f1 f2 f3 f4 f5 f6 q0 q1 q2 q3 q4 q5 q6 TT OO tS
  change bodyPost _ _ _ _ _ (put7 w5 (w.heap.size + 1 + 1) R)
  generalize put7 w5 (w.heap.size + 1 + 1) R = W5 at *
  exact bodyPost_ret (v := .tuple #[.agg #[.int .i64 R.k, .int .i64 R.n, .bool R.g, .slice R.A R.ln R.lc, .int .u64 R.u, .string R.s, .slice R.B R.m R.d], .int .i64 E]) (by simp [results, Tryz.results7, go_sem, y0, y1, y2, y3, y4, y5, y6]) rfl ⟨R, by rw [HE.out], hT5, hO5.mono (by omega), MM.out, hB5⟩

end Go.Proofs.YtompimbeaeinbaaGreat
