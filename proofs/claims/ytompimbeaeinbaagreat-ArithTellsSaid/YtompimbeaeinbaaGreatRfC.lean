/-
  THE REFERENCE's Do of floats (chapter 6).
-/
import Derived.Test.YtompimbeaeinbaaGreatRfA
namespace Go.Proofs.YtompimbeaeinbaaGreat
open Go.RowKit

set_option maxRecDepth 100000 in
theorem op_bd (o : BinOp) (x y : Int) : 0 ≤ opI o x y ∧ opI o x y ≤ 18446744073709551615 := by
  unfold opI
  have h1 := opN_lt o x.toNat y.toNat
  have h2 : 2 * Fl.S = 18446744073709551616 := by decide
  omega

set_option maxRecDepth 100000 in
set_option maxHeartbeats 8000000 in
theorem refDo_a5 (w : World) (op : Int) (r r' : TR) (t t' : Tm) (h : TV w r t) (h' : TV w r' t') (ho : t.Ok) (ho' : t'.Ok) (hop : op = 5) (x y : Int) (hx : t.fltO = some x) (hy : t'.fltO = some y) (k1 : t.kind = 3) :
    Calls Tryz.prog 7 #[.int .i64 op, .agg #[.int .i64 r.k, .int .i64 r.n, .bool r.g, .slice r.A r.ln r.lc, .int .u64 r.u, .string r.s, .slice r.B r.m r.d], .agg #[.int .i64 r'.k, .int .i64 r'.n, .bool r'.g, .slice r'.A r'.ln r'.lc, .int .u64 r'.u, .string r'.s, .slice r'.B r'.m r'.d]] w (RfP w (some (fltT (opI .add x y)))) := by
  subst hop
  rw [h.kind] at k1
  have e3 : (r.k != 3) = false := by rw [k1]; rfl
  clear k1
  have I := (SmI.new h h').below ((Below.refl _ _).alloc (Nat.le_refl _) (.cells #[.int .i64 zeroR.k, .int .i64 zeroR.n, .bool zeroR.g, .slice zeroR.A zeroR.ln zeroR.lc, .int .u64 zeroR.u, .string zeroR.s, .slice zeroR.B zeroR.m zeroR.d] 28))
  have hz := Box7.new ((w.alloc (.cells #[.int .i64 r.k, .int .i64 r.n, .bool r.g, .slice r.A r.ln r.lc, .int .u64 r.u, .string r.s, .slice r.B r.m r.d] 28)).alloc (.cells #[.int .i64 r'.k, .int .i64 r'.n, .bool r'.g, .slice r'.A r'.ln r'.lc, .int .u64 r'.u, .string r'.s, .slice r'.B r'.m r'.d] 28)) zeroR
  simp only [World.size_alloc] at hz
  have hW : (((w.alloc (.cells #[.int .i64 r.k, .int .i64 r.n, .bool r.g, .slice r.A r.ln r.lc, .int .u64 r.u, .string r.s, .slice r.B r.m r.d] 28)).alloc (.cells #[.int .i64 r'.k, .int .i64 r'.n, .bool r'.g, .slice r'.A r'.ln r'.lc, .int .u64 r'.u, .string r'.s, .slice r'.B r'.m r'.d] 28)).alloc (.cells #[.int .i64 zeroR.k, .int .i64 zeroR.n, .bool zeroR.g, .slice zeroR.A zeroR.ln zeroR.lc, .int .u64 zeroR.u, .string zeroR.s, .slice zeroR.B zeroR.m zeroR.d] 28)).heap.size = w.heap.size + 3 := by simp
  go_enter Tryz.func7, Tryz.ntmps7
  go_wp2_with fail
  generalize ((w.alloc (.cells #[.int .i64 r.k, .int .i64 r.n, .bool r.g, .slice r.A r.ln r.lc, .int .u64 r.u, .string r.s, .slice r.B r.m r.d] 28)).alloc (.cells #[.int .i64 r'.k, .int .i64 r'.n, .bool r'.g, .slice r'.A r'.ln r'.lc, .int .u64 r'.u, .string r'.s, .slice r'.B r'.m r'.d] 28)).alloc (.cells #[.int .i64 zeroR.k, .int .i64 zeroR.n, .bool zeroR.g, .slice zeroR.A zeroR.ln zeroR.lc, .int .u64 zeroR.u, .string zeroR.s, .slice zeroR.B zeroR.m zeroR.d] 28) = W at *
  refine (refFloat_yes W r t x I.tv ho hx).mono ?_
  rintro e w1 ⟨rfl, hb1⟩
  have J1 := I.below hb1
  have K1 := hz.below hb1
  have hsw1 := hb1.size
  clear I hz
  have y0 := J1.ix.at.c0; have y1 := J1.ix.at.c1; have y2 := J1.ix.at.c2; have y3 := J1.ix.at.c3; have y4 := J1.ix.at.c4; have y5 := J1.ix.at.c5; have y6 := J1.ix.at.c6
  go_wp2_with fail
  refine (refFloat_yes w1 r' t' y J1.tw ho' hy).mono ?_
  rintro e w2 ⟨rfl, hb2⟩
  have J2 := J1.below hb2
  have K2 := K1.below hb2
  have hsw2 := hb2.size
  clear J1 K1
  clear y0 y1 y2 y3 y4 y5 y6
  have y0 := J2.bx.at.c0; have y1 := J2.bx.at.c1; have y2 := J2.bx.at.c2; have y3 := J2.bx.at.c3; have y4 := J2.bx.at.c4; have y5 := J2.bx.at.c5; have y6 := J2.bx.at.c6; have x0 := J2.ix.at.c0; have x1 := J2.ix.at.c1; have x2 := J2.ix.at.c2; have x3 := J2.ix.at.c3; have x4 := J2.ix.at.c4; have x5 := J2.ix.at.c5; have x6 := J2.ix.at.c6
  go_wp2_with fail
  refine (refDivF_any w2 x y).mono ?_
  obtain ⟨d, hd⟩ : ∃ d, d = opI .quo x y := ⟨_, rfl⟩
  rw [← hd]
  have HD := Lib.hid hd
  clear hd
  rintro e w3 ⟨rfl, hb3⟩
  have J3 := J2.below hb3
  have K3 := K2.below hb3
  have hs3 := hb3.size
  clear y0 y1 y2 y3 y4 y5 y6 x0 x1 x2 x3 x4 x5 x6 J2 K2
  go_wp2_with fail
  refine (refAddF_any w3 x y).mono ?_
  obtain ⟨v, hv⟩ : ∃ v, v = opI .add x y := ⟨_, rfl⟩
  rw [← hv]
  have HV := Lib.hid hv
  clear hv
  rintro e w4 ⟨rfl, hb4⟩
  have J4 := J3.below hb4
  have K4 := K3.below hb4
  have hs4 := hb4.size
  clear J3 K3
  have bd := op_bd .add x y
  rw [← HV.out] at bd
  have f0 := K4.frozen 0; have f1 := K4.frozen 1; have f2 := K4.frozen 2; have f3 := K4.frozen 3; have f4 := K4.frozen 4; have f5 := K4.frozen 5; have f6 := K4.frozen 6; have q0 := K4.at.c0; have q1 := K4.at.c1; have q2 := K4.at.c2; have q3 := K4.at.c3; have q4 := K4.at.c4; have q5 := K4.at.c5; have q6 := K4.at.c6
  go_wp2
  have C := (K4.put (mkR 3 0 v ⟨#[]⟩ none 0 0)).at
  have hB5 := J4.be.put7 (g := w.heap.size + 1 + 1) (by omega) (mkR 3 0 v ⟨#[]⟩ none 0 0)
  have y0 := C.c0; have y1 := C.c1; have y2 := C.c2; have y3 := C.c3; have y4 := C.c4; have y5 := C.c5; have y6 := C.c6
  clear C f0 f1 f2 f3 f4 f5 f6 q0 q1 q2 q3 q4 q5 q6
  change bodyPost _ _ _ _ _ (put7 w4 (w.heap.size + 1 + 1) (mkR 3 0 v ⟨#[]⟩ none 0 0))
  generalize put7 w4 (w.heap.size + 1 + 1) (mkR 3 0 v ⟨#[]⟩ none 0 0) = W5 at *
  exact bodyPost_ret (v := .tuple #[.agg #[.int .i64 (mkR 3 0 v ⟨#[]⟩ none 0 0).k, .int .i64 (mkR 3 0 v ⟨#[]⟩ none 0 0).n, .bool (mkR 3 0 v ⟨#[]⟩ none 0 0).g, .slice (mkR 3 0 v ⟨#[]⟩ none 0 0).A (mkR 3 0 v ⟨#[]⟩ none 0 0).ln (mkR 3 0 v ⟨#[]⟩ none 0 0).lc, .int .u64 (mkR 3 0 v ⟨#[]⟩ none 0 0).u, .string (mkR 3 0 v ⟨#[]⟩ none 0 0).s, .slice (mkR 3 0 v ⟨#[]⟩ none 0 0).B (mkR 3 0 v ⟨#[]⟩ none 0 0).m (mkR 3 0 v ⟨#[]⟩ none 0 0).d], .int .i64 (-1)]) (by simp [results, Tryz.results7, go_sem, y0, y1, y2, y3, y4, y5, y6]) rfl ⟨mkR 3 0 v ⟨#[]⟩ none 0 0, rfl, by rw [← HV.out]; exact flt_tv bd.1 bd.2, Own.nil _ _, rfl, hB5⟩

set_option maxRecDepth 100000 in
set_option maxHeartbeats 8000000 in
theorem refDo_a6 (w : World) (op : Int) (r r' : TR) (t t' : Tm) (h : TV w r t) (h' : TV w r' t') (ho : t.Ok) (ho' : t'.Ok) (hop : op = 6) (x y : Int) (hx : t.fltO = some x) (hy : t'.fltO = some y) (k1 : t.kind = 3) :
    Calls Tryz.prog 7 #[.int .i64 op, .agg #[.int .i64 r.k, .int .i64 r.n, .bool r.g, .slice r.A r.ln r.lc, .int .u64 r.u, .string r.s, .slice r.B r.m r.d], .agg #[.int .i64 r'.k, .int .i64 r'.n, .bool r'.g, .slice r'.A r'.ln r'.lc, .int .u64 r'.u, .string r'.s, .slice r'.B r'.m r'.d]] w (RfP w (some (fltT (opI .sub x y)))) := by
  subst hop
  rw [h.kind] at k1
  have e3 : (r.k != 3) = false := by rw [k1]; rfl
  clear k1
  have I := (SmI.new h h').below ((Below.refl _ _).alloc (Nat.le_refl _) (.cells #[.int .i64 zeroR.k, .int .i64 zeroR.n, .bool zeroR.g, .slice zeroR.A zeroR.ln zeroR.lc, .int .u64 zeroR.u, .string zeroR.s, .slice zeroR.B zeroR.m zeroR.d] 28))
  have hz := Box7.new ((w.alloc (.cells #[.int .i64 r.k, .int .i64 r.n, .bool r.g, .slice r.A r.ln r.lc, .int .u64 r.u, .string r.s, .slice r.B r.m r.d] 28)).alloc (.cells #[.int .i64 r'.k, .int .i64 r'.n, .bool r'.g, .slice r'.A r'.ln r'.lc, .int .u64 r'.u, .string r'.s, .slice r'.B r'.m r'.d] 28)) zeroR
  simp only [World.size_alloc] at hz
  have hW : (((w.alloc (.cells #[.int .i64 r.k, .int .i64 r.n, .bool r.g, .slice r.A r.ln r.lc, .int .u64 r.u, .string r.s, .slice r.B r.m r.d] 28)).alloc (.cells #[.int .i64 r'.k, .int .i64 r'.n, .bool r'.g, .slice r'.A r'.ln r'.lc, .int .u64 r'.u, .string r'.s, .slice r'.B r'.m r'.d] 28)).alloc (.cells #[.int .i64 zeroR.k, .int .i64 zeroR.n, .bool zeroR.g, .slice zeroR.A zeroR.ln zeroR.lc, .int .u64 zeroR.u, .string zeroR.s, .slice zeroR.B zeroR.m zeroR.d] 28)).heap.size = w.heap.size + 3 := by simp
  go_enter Tryz.func7, Tryz.ntmps7
  go_wp2_with fail
  generalize ((w.alloc (.cells #[.int .i64 r.k, .int .i64 r.n, .bool r.g, .slice r.A r.ln r.lc, .int .u64 r.u, .string r.s, .slice r.B r.m r.d] 28)).alloc (.cells #[.int .i64 r'.k, .int .i64 r'.n, .bool r'.g, .slice r'.A r'.ln r'.lc, .int .u64 r'.u, .string r'.s, .slice r'.B r'.m r'.d] 28)).alloc (.cells #[.int .i64 zeroR.k, .int .i64 zeroR.n, .bool zeroR.g, .slice zeroR.A zeroR.ln zeroR.lc, .int .u64 zeroR.u, .string zeroR.s, .slice zeroR.B zeroR.m zeroR.d] 28) = W at *
  refine (refFloat_yes W r t x I.tv ho hx).mono ?_
  rintro e w1 ⟨rfl, hb1⟩
  have J1 := I.below hb1
  have K1 := hz.below hb1
  have hsw1 := hb1.size
  clear I hz
  have y0 := J1.ix.at.c0; have y1 := J1.ix.at.c1; have y2 := J1.ix.at.c2; have y3 := J1.ix.at.c3; have y4 := J1.ix.at.c4; have y5 := J1.ix.at.c5; have y6 := J1.ix.at.c6
  go_wp2_with fail
  refine (refFloat_yes w1 r' t' y J1.tw ho' hy).mono ?_
  rintro e w2 ⟨rfl, hb2⟩
  have J2 := J1.below hb2
  have K2 := K1.below hb2
  have hsw2 := hb2.size
  clear J1 K1
  clear y0 y1 y2 y3 y4 y5 y6
  have y0 := J2.bx.at.c0; have y1 := J2.bx.at.c1; have y2 := J2.bx.at.c2; have y3 := J2.bx.at.c3; have y4 := J2.bx.at.c4; have y5 := J2.bx.at.c5; have y6 := J2.bx.at.c6; have x0 := J2.ix.at.c0; have x1 := J2.ix.at.c1; have x2 := J2.ix.at.c2; have x3 := J2.ix.at.c3; have x4 := J2.ix.at.c4; have x5 := J2.ix.at.c5; have x6 := J2.ix.at.c6
  go_wp2_with fail
  refine (refDivF_any w2 x y).mono ?_
  obtain ⟨d, hd⟩ : ∃ d, d = opI .quo x y := ⟨_, rfl⟩
  rw [← hd]
  have HD := Lib.hid hd
  clear hd
  rintro e w3 ⟨rfl, hb3⟩
  have J3 := J2.below hb3
  have K3 := K2.below hb3
  have hs3 := hb3.size
  clear y0 y1 y2 y3 y4 y5 y6 x0 x1 x2 x3 x4 x5 x6 J2 K2
  go_wp2_with fail
  refine (refSubF_any w3 x y).mono ?_
  obtain ⟨v, hv⟩ : ∃ v, v = opI .sub x y := ⟨_, rfl⟩
  rw [← hv]
  have HV := Lib.hid hv
  clear hv
  rintro e w4 ⟨rfl, hb4⟩
  have J4 := J3.below hb4
  have K4 := K3.below hb4
  have hs4 := hb4.size
  clear J3 K3
  have bd := op_bd .sub x y
  rw [← HV.out] at bd
  have f0 := K4.frozen 0; have f1 := K4.frozen 1; have f2 := K4.frozen 2; have f3 := K4.frozen 3; have f4 := K4.frozen 4; have f5 := K4.frozen 5; have f6 := K4.frozen 6; have q0 := K4.at.c0; have q1 := K4.at.c1; have q2 := K4.at.c2; have q3 := K4.at.c3; have q4 := K4.at.c4; have q5 := K4.at.c5; have q6 := K4.at.c6
  go_wp2
  have C := (K4.put (mkR 3 0 v ⟨#[]⟩ none 0 0)).at
  have hB5 := J4.be.put7 (g := w.heap.size + 1 + 1) (by omega) (mkR 3 0 v ⟨#[]⟩ none 0 0)
  have y0 := C.c0; have y1 := C.c1; have y2 := C.c2; have y3 := C.c3; have y4 := C.c4; have y5 := C.c5; have y6 := C.c6
  clear C f0 f1 f2 f3 f4 f5 f6 q0 q1 q2 q3 q4 q5 q6
  change bodyPost _ _ _ _ _ (put7 w4 (w.heap.size + 1 + 1) (mkR 3 0 v ⟨#[]⟩ none 0 0))
  generalize put7 w4 (w.heap.size + 1 + 1) (mkR 3 0 v ⟨#[]⟩ none 0 0) = W5 at *
  exact bodyPost_ret (v := .tuple #[.agg #[.int .i64 (mkR 3 0 v ⟨#[]⟩ none 0 0).k, .int .i64 (mkR 3 0 v ⟨#[]⟩ none 0 0).n, .bool (mkR 3 0 v ⟨#[]⟩ none 0 0).g, .slice (mkR 3 0 v ⟨#[]⟩ none 0 0).A (mkR 3 0 v ⟨#[]⟩ none 0 0).ln (mkR 3 0 v ⟨#[]⟩ none 0 0).lc, .int .u64 (mkR 3 0 v ⟨#[]⟩ none 0 0).u, .string (mkR 3 0 v ⟨#[]⟩ none 0 0).s, .slice (mkR 3 0 v ⟨#[]⟩ none 0 0).B (mkR 3 0 v ⟨#[]⟩ none 0 0).m (mkR 3 0 v ⟨#[]⟩ none 0 0).d], .int .i64 (-1)]) (by simp [results, Tryz.results7, go_sem, y0, y1, y2, y3, y4, y5, y6]) rfl ⟨mkR 3 0 v ⟨#[]⟩ none 0 0, rfl, by rw [← HV.out]; exact flt_tv bd.1 bd.2, Own.nil _ _, rfl, hB5⟩

set_option maxRecDepth 100000 in
set_option maxHeartbeats 8000000 in
theorem refDo_a7 (w : World) (op : Int) (r r' : TR) (t t' : Tm) (h : TV w r t) (h' : TV w r' t') (ho : t.Ok) (ho' : t'.Ok) (hop : op = 7) (x y : Int) (hx : t.fltO = some x) (hy : t'.fltO = some y) (k1 : t.kind = 3) :
    Calls Tryz.prog 7 #[.int .i64 op, .agg #[.int .i64 r.k, .int .i64 r.n, .bool r.g, .slice r.A r.ln r.lc, .int .u64 r.u, .string r.s, .slice r.B r.m r.d], .agg #[.int .i64 r'.k, .int .i64 r'.n, .bool r'.g, .slice r'.A r'.ln r'.lc, .int .u64 r'.u, .string r'.s, .slice r'.B r'.m r'.d]] w (RfP w (some (fltT (opI .mul x y)))) := by
  subst hop
  rw [h.kind] at k1
  have e3 : (r.k != 3) = false := by rw [k1]; rfl
  clear k1
  have I := (SmI.new h h').below ((Below.refl _ _).alloc (Nat.le_refl _) (.cells #[.int .i64 zeroR.k, .int .i64 zeroR.n, .bool zeroR.g, .slice zeroR.A zeroR.ln zeroR.lc, .int .u64 zeroR.u, .string zeroR.s, .slice zeroR.B zeroR.m zeroR.d] 28))
  have hz := Box7.new ((w.alloc (.cells #[.int .i64 r.k, .int .i64 r.n, .bool r.g, .slice r.A r.ln r.lc, .int .u64 r.u, .string r.s, .slice r.B r.m r.d] 28)).alloc (.cells #[.int .i64 r'.k, .int .i64 r'.n, .bool r'.g, .slice r'.A r'.ln r'.lc, .int .u64 r'.u, .string r'.s, .slice r'.B r'.m r'.d] 28)) zeroR
  simp only [World.size_alloc] at hz
  have hW : (((w.alloc (.cells #[.int .i64 r.k, .int .i64 r.n, .bool r.g, .slice r.A r.ln r.lc, .int .u64 r.u, .string r.s, .slice r.B r.m r.d] 28)).alloc (.cells #[.int .i64 r'.k, .int .i64 r'.n, .bool r'.g, .slice r'.A r'.ln r'.lc, .int .u64 r'.u, .string r'.s, .slice r'.B r'.m r'.d] 28)).alloc (.cells #[.int .i64 zeroR.k, .int .i64 zeroR.n, .bool zeroR.g, .slice zeroR.A zeroR.ln zeroR.lc, .int .u64 zeroR.u, .string zeroR.s, .slice zeroR.B zeroR.m zeroR.d] 28)).heap.size = w.heap.size + 3 := by simp
  go_enter Tryz.func7, Tryz.ntmps7
  go_wp2_with fail
  generalize ((w.alloc (.cells #[.int .i64 r.k, .int .i64 r.n, .bool r.g, .slice r.A r.ln r.lc, .int .u64 r.u, .string r.s, .slice r.B r.m r.d] 28)).alloc (.cells #[.int .i64 r'.k, .int .i64 r'.n, .bool r'.g, .slice r'.A r'.ln r'.lc, .int .u64 r'.u, .string r'.s, .slice r'.B r'.m r'.d] 28)).alloc (.cells #[.int .i64 zeroR.k, .int .i64 zeroR.n, .bool zeroR.g, .slice zeroR.A zeroR.ln zeroR.lc, .int .u64 zeroR.u, .string zeroR.s, .slice zeroR.B zeroR.m zeroR.d] 28) = W at *
  refine (refFloat_yes W r t x I.tv ho hx).mono ?_
  rintro e w1 ⟨rfl, hb1⟩
  have J1 := I.below hb1
  have K1 := hz.below hb1
  have hsw1 := hb1.size
  clear I hz
  have y0 := J1.ix.at.c0; have y1 := J1.ix.at.c1; have y2 := J1.ix.at.c2; have y3 := J1.ix.at.c3; have y4 := J1.ix.at.c4; have y5 := J1.ix.at.c5; have y6 := J1.ix.at.c6
  go_wp2_with fail
  refine (refFloat_yes w1 r' t' y J1.tw ho' hy).mono ?_
  rintro e w2 ⟨rfl, hb2⟩
  have J2 := J1.below hb2
  have K2 := K1.below hb2
  have hsw2 := hb2.size
  clear J1 K1
  clear y0 y1 y2 y3 y4 y5 y6
  have y0 := J2.bx.at.c0; have y1 := J2.bx.at.c1; have y2 := J2.bx.at.c2; have y3 := J2.bx.at.c3; have y4 := J2.bx.at.c4; have y5 := J2.bx.at.c5; have y6 := J2.bx.at.c6; have x0 := J2.ix.at.c0; have x1 := J2.ix.at.c1; have x2 := J2.ix.at.c2; have x3 := J2.ix.at.c3; have x4 := J2.ix.at.c4; have x5 := J2.ix.at.c5; have x6 := J2.ix.at.c6
  go_wp2_with fail
  refine (refDivF_any w2 x y).mono ?_
  obtain ⟨d, hd⟩ : ∃ d, d = opI .quo x y := ⟨_, rfl⟩
  rw [← hd]
  have HD := Lib.hid hd
  clear hd
  rintro e w3 ⟨rfl, hb3⟩
  have J3 := J2.below hb3
  have K3 := K2.below hb3
  have hs3 := hb3.size
  clear y0 y1 y2 y3 y4 y5 y6 x0 x1 x2 x3 x4 x5 x6 J2 K2
  go_wp2_with fail
  refine (refMulF_any w3 x y).mono ?_
  obtain ⟨v, hv⟩ : ∃ v, v = opI .mul x y := ⟨_, rfl⟩
  rw [← hv]
  have HV := Lib.hid hv
  clear hv
  rintro e w4 ⟨rfl, hb4⟩
  have J4 := J3.below hb4
  have K4 := K3.below hb4
  have hs4 := hb4.size
  clear J3 K3
  have bd := op_bd .mul x y
  rw [← HV.out] at bd
  have f0 := K4.frozen 0; have f1 := K4.frozen 1; have f2 := K4.frozen 2; have f3 := K4.frozen 3; have f4 := K4.frozen 4; have f5 := K4.frozen 5; have f6 := K4.frozen 6; have q0 := K4.at.c0; have q1 := K4.at.c1; have q2 := K4.at.c2; have q3 := K4.at.c3; have q4 := K4.at.c4; have q5 := K4.at.c5; have q6 := K4.at.c6
  go_wp2
  have C := (K4.put (mkR 3 0 v ⟨#[]⟩ none 0 0)).at
  have hB5 := J4.be.put7 (g := w.heap.size + 1 + 1) (by omega) (mkR 3 0 v ⟨#[]⟩ none 0 0)
  have y0 := C.c0; have y1 := C.c1; have y2 := C.c2; have y3 := C.c3; have y4 := C.c4; have y5 := C.c5; have y6 := C.c6
  clear C f0 f1 f2 f3 f4 f5 f6 q0 q1 q2 q3 q4 q5 q6
  change bodyPost _ _ _ _ _ (put7 w4 (w.heap.size + 1 + 1) (mkR 3 0 v ⟨#[]⟩ none 0 0))
  generalize put7 w4 (w.heap.size + 1 + 1) (mkR 3 0 v ⟨#[]⟩ none 0 0) = W5 at *
  exact bodyPost_ret (v := .tuple #[.agg #[.int .i64 (mkR 3 0 v ⟨#[]⟩ none 0 0).k, .int .i64 (mkR 3 0 v ⟨#[]⟩ none 0 0).n, .bool (mkR 3 0 v ⟨#[]⟩ none 0 0).g, .slice (mkR 3 0 v ⟨#[]⟩ none 0 0).A (mkR 3 0 v ⟨#[]⟩ none 0 0).ln (mkR 3 0 v ⟨#[]⟩ none 0 0).lc, .int .u64 (mkR 3 0 v ⟨#[]⟩ none 0 0).u, .string (mkR 3 0 v ⟨#[]⟩ none 0 0).s, .slice (mkR 3 0 v ⟨#[]⟩ none 0 0).B (mkR 3 0 v ⟨#[]⟩ none 0 0).m (mkR 3 0 v ⟨#[]⟩ none 0 0).d], .int .i64 (-1)]) (by simp [results, Tryz.results7, go_sem, y0, y1, y2, y3, y4, y5, y6]) rfl ⟨mkR 3 0 v ⟨#[]⟩ none 0 0, rfl, by rw [← HV.out]; exact flt_tv bd.1 bd.2, Own.nil _ _, rfl, hB5⟩

set_option maxRecDepth 100000 in
set_option maxHeartbeats 8000000 in
theorem refDo_a8 (w : World) (op : Int) (r r' : TR) (t t' : Tm) (h : TV w r t) (h' : TV w r' t') (ho : t.Ok) (ho' : t'.Ok) (hop : op = 8) (x y : Int) (hx : t.fltO = some x) (hy : t'.fltO = some y) (k1 : t.kind = 3) :
    Calls Tryz.prog 7 #[.int .i64 op, .agg #[.int .i64 r.k, .int .i64 r.n, .bool r.g, .slice r.A r.ln r.lc, .int .u64 r.u, .string r.s, .slice r.B r.m r.d], .agg #[.int .i64 r'.k, .int .i64 r'.n, .bool r'.g, .slice r'.A r'.ln r'.lc, .int .u64 r'.u, .string r'.s, .slice r'.B r'.m r'.d]] w (RfP w (some (fltT (opI .quo x y)))) := by
  subst hop
  rw [h.kind] at k1
  have e3 : (r.k != 3) = false := by rw [k1]; rfl
  clear k1
  have I := (SmI.new h h').below ((Below.refl _ _).alloc (Nat.le_refl _) (.cells #[.int .i64 zeroR.k, .int .i64 zeroR.n, .bool zeroR.g, .slice zeroR.A zeroR.ln zeroR.lc, .int .u64 zeroR.u, .string zeroR.s, .slice zeroR.B zeroR.m zeroR.d] 28))
  have hz := Box7.new ((w.alloc (.cells #[.int .i64 r.k, .int .i64 r.n, .bool r.g, .slice r.A r.ln r.lc, .int .u64 r.u, .string r.s, .slice r.B r.m r.d] 28)).alloc (.cells #[.int .i64 r'.k, .int .i64 r'.n, .bool r'.g, .slice r'.A r'.ln r'.lc, .int .u64 r'.u, .string r'.s, .slice r'.B r'.m r'.d] 28)) zeroR
  simp only [World.size_alloc] at hz
  have hW : (((w.alloc (.cells #[.int .i64 r.k, .int .i64 r.n, .bool r.g, .slice r.A r.ln r.lc, .int .u64 r.u, .string r.s, .slice r.B r.m r.d] 28)).alloc (.cells #[.int .i64 r'.k, .int .i64 r'.n, .bool r'.g, .slice r'.A r'.ln r'.lc, .int .u64 r'.u, .string r'.s, .slice r'.B r'.m r'.d] 28)).alloc (.cells #[.int .i64 zeroR.k, .int .i64 zeroR.n, .bool zeroR.g, .slice zeroR.A zeroR.ln zeroR.lc, .int .u64 zeroR.u, .string zeroR.s, .slice zeroR.B zeroR.m zeroR.d] 28)).heap.size = w.heap.size + 3 := by simp
  go_enter Tryz.func7, Tryz.ntmps7
  go_wp2_with fail
  generalize ((w.alloc (.cells #[.int .i64 r.k, .int .i64 r.n, .bool r.g, .slice r.A r.ln r.lc, .int .u64 r.u, .string r.s, .slice r.B r.m r.d] 28)).alloc (.cells #[.int .i64 r'.k, .int .i64 r'.n, .bool r'.g, .slice r'.A r'.ln r'.lc, .int .u64 r'.u, .string r'.s, .slice r'.B r'.m r'.d] 28)).alloc (.cells #[.int .i64 zeroR.k, .int .i64 zeroR.n, .bool zeroR.g, .slice zeroR.A zeroR.ln zeroR.lc, .int .u64 zeroR.u, .string zeroR.s, .slice zeroR.B zeroR.m zeroR.d] 28) = W at *
  refine (refFloat_yes W r t x I.tv ho hx).mono ?_
  rintro e w1 ⟨rfl, hb1⟩
  have J1 := I.below hb1
  have K1 := hz.below hb1
  have hsw1 := hb1.size
  clear I hz
  have y0 := J1.ix.at.c0; have y1 := J1.ix.at.c1; have y2 := J1.ix.at.c2; have y3 := J1.ix.at.c3; have y4 := J1.ix.at.c4; have y5 := J1.ix.at.c5; have y6 := J1.ix.at.c6
  go_wp2_with fail
  refine (refFloat_yes w1 r' t' y J1.tw ho' hy).mono ?_
  rintro e w2 ⟨rfl, hb2⟩
  have J2 := J1.below hb2
  have K2 := K1.below hb2
  have hsw2 := hb2.size
  clear J1 K1
  clear y0 y1 y2 y3 y4 y5 y6
  have y0 := J2.bx.at.c0; have y1 := J2.bx.at.c1; have y2 := J2.bx.at.c2; have y3 := J2.bx.at.c3; have y4 := J2.bx.at.c4; have y5 := J2.bx.at.c5; have y6 := J2.bx.at.c6; have x0 := J2.ix.at.c0; have x1 := J2.ix.at.c1; have x2 := J2.ix.at.c2; have x3 := J2.ix.at.c3; have x4 := J2.ix.at.c4; have x5 := J2.ix.at.c5; have x6 := J2.ix.at.c6
  go_wp2_with fail
  refine (refDivF_any w2 x y).mono ?_
  obtain ⟨d, hd⟩ : ∃ d, d = opI .quo x y := ⟨_, rfl⟩
  rw [← hd]
  have HD := Lib.hid hd
  clear hd
  rintro e w3 ⟨rfl, hb3⟩
  have J3 := J2.below hb3
  have K3 := K2.below hb3
  have hs3 := hb3.size
  clear y0 y1 y2 y3 y4 y5 y6 x0 x1 x2 x3 x4 x5 x6 J2 K2
  have bd := op_bd .quo x y
  rw [← HD.out] at bd
  have f0 := K3.frozen 0; have f1 := K3.frozen 1; have f2 := K3.frozen 2; have f3 := K3.frozen 3; have f4 := K3.frozen 4; have f5 := K3.frozen 5; have f6 := K3.frozen 6; have q0 := K3.at.c0; have q1 := K3.at.c1; have q2 := K3.at.c2; have q3 := K3.at.c3; have q4 := K3.at.c4; have q5 := K3.at.c5; have q6 := K3.at.c6
  go_wp2
  have C := (K3.put (mkR 3 0 d ⟨#[]⟩ none 0 0)).at
  have hB5 := J3.be.put7 (g := w.heap.size + 1 + 1) (by omega) (mkR 3 0 d ⟨#[]⟩ none 0 0)
  have y0 := C.c0; have y1 := C.c1; have y2 := C.c2; have y3 := C.c3; have y4 := C.c4; have y5 := C.c5; have y6 := C.c6
  clear C f0 f1 f2 f3 f4 f5 f6 q0 q1 q2 q3 q4 q5 q6
  change bodyPost _ _ _ _ _ (put7 w3 (w.heap.size + 1 + 1) (mkR 3 0 d ⟨#[]⟩ none 0 0))
  generalize put7 w3 (w.heap.size + 1 + 1) (mkR 3 0 d ⟨#[]⟩ none 0 0) = W5 at *
  exact bodyPost_ret (v := .tuple #[.agg #[.int .i64 (mkR 3 0 d ⟨#[]⟩ none 0 0).k, .int .i64 (mkR 3 0 d ⟨#[]⟩ none 0 0).n, .bool (mkR 3 0 d ⟨#[]⟩ none 0 0).g, .slice (mkR 3 0 d ⟨#[]⟩ none 0 0).A (mkR 3 0 d ⟨#[]⟩ none 0 0).ln (mkR 3 0 d ⟨#[]⟩ none 0 0).lc, .int .u64 (mkR 3 0 d ⟨#[]⟩ none 0 0).u, .string (mkR 3 0 d ⟨#[]⟩ none 0 0).s, .slice (mkR 3 0 d ⟨#[]⟩ none 0 0).B (mkR 3 0 d ⟨#[]⟩ none 0 0).m (mkR 3 0 d ⟨#[]⟩ none 0 0).d], .int .i64 (-1)]) (by simp [results, Tryz.results7, go_sem, y0, y1, y2, y3, y4, y5, y6]) rfl ⟨mkR 3 0 d ⟨#[]⟩ none 0 0, rfl, by rw [← HD.out]; exact flt_tv bd.1 bd.2, Own.nil _ _, rfl, hB5⟩

set_option maxRecDepth 100000 in
set_option maxHeartbeats 8000000 in
theorem refDo_b5 (w : World) (op : Int) (r r' : TR) (t t' : Tm) (h : TV w r t) (h' : TV w r' t') (ho : t.Ok) (ho' : t'.Ok) (hop : op = 5) (x y : Int) (hx : t.fltO = some x) (hy : t'.fltO = some y) (k1 : t.kind ≠ 3) (k2 : t'.kind = 3) :
    Calls Tryz.prog 7 #[.int .i64 op, .agg #[.int .i64 r.k, .int .i64 r.n, .bool r.g, .slice r.A r.ln r.lc, .int .u64 r.u, .string r.s, .slice r.B r.m r.d], .agg #[.int .i64 r'.k, .int .i64 r'.n, .bool r'.g, .slice r'.A r'.ln r'.lc, .int .u64 r'.u, .string r'.s, .slice r'.B r'.m r'.d]] w (RfP w (some (fltT (opI .add x y)))) := by
  subst hop
  rw [h.kind] at k1
  rw [h'.kind] at k2
  have e3 : (r.k != 3) = true := bne_iff_ne.2 k1
  have e3' : (r'.k != 3) = false := by rw [k2]; rfl
  clear k1 k2
  have I := (SmI.new h h').below ((Below.refl _ _).alloc (Nat.le_refl _) (.cells #[.int .i64 zeroR.k, .int .i64 zeroR.n, .bool zeroR.g, .slice zeroR.A zeroR.ln zeroR.lc, .int .u64 zeroR.u, .string zeroR.s, .slice zeroR.B zeroR.m zeroR.d] 28))
  have hz := Box7.new ((w.alloc (.cells #[.int .i64 r.k, .int .i64 r.n, .bool r.g, .slice r.A r.ln r.lc, .int .u64 r.u, .string r.s, .slice r.B r.m r.d] 28)).alloc (.cells #[.int .i64 r'.k, .int .i64 r'.n, .bool r'.g, .slice r'.A r'.ln r'.lc, .int .u64 r'.u, .string r'.s, .slice r'.B r'.m r'.d] 28)) zeroR
  simp only [World.size_alloc] at hz
  have hW : (((w.alloc (.cells #[.int .i64 r.k, .int .i64 r.n, .bool r.g, .slice r.A r.ln r.lc, .int .u64 r.u, .string r.s, .slice r.B r.m r.d] 28)).alloc (.cells #[.int .i64 r'.k, .int .i64 r'.n, .bool r'.g, .slice r'.A r'.ln r'.lc, .int .u64 r'.u, .string r'.s, .slice r'.B r'.m r'.d] 28)).alloc (.cells #[.int .i64 zeroR.k, .int .i64 zeroR.n, .bool zeroR.g, .slice zeroR.A zeroR.ln zeroR.lc, .int .u64 zeroR.u, .string zeroR.s, .slice zeroR.B zeroR.m zeroR.d] 28)).heap.size = w.heap.size + 3 := by simp
  go_enter Tryz.func7, Tryz.ntmps7
  go_wp2_with fail
  generalize ((w.alloc (.cells #[.int .i64 r.k, .int .i64 r.n, .bool r.g, .slice r.A r.ln r.lc, .int .u64 r.u, .string r.s, .slice r.B r.m r.d] 28)).alloc (.cells #[.int .i64 r'.k, .int .i64 r'.n, .bool r'.g, .slice r'.A r'.ln r'.lc, .int .u64 r'.u, .string r'.s, .slice r'.B r'.m r'.d] 28)).alloc (.cells #[.int .i64 zeroR.k, .int .i64 zeroR.n, .bool zeroR.g, .slice zeroR.A zeroR.ln zeroR.lc, .int .u64 zeroR.u, .string zeroR.s, .slice zeroR.B zeroR.m zeroR.d] 28) = W at *
  refine (refFloat_yes W r t x I.tv ho hx).mono ?_
  rintro e w1 ⟨rfl, hb1⟩
  have J1 := I.below hb1
  have K1 := hz.below hb1
  have hsw1 := hb1.size
  clear I hz
  have y0 := J1.ix.at.c0; have y1 := J1.ix.at.c1; have y2 := J1.ix.at.c2; have y3 := J1.ix.at.c3; have y4 := J1.ix.at.c4; have y5 := J1.ix.at.c5; have y6 := J1.ix.at.c6
  go_wp2_with fail
  refine (refFloat_yes w1 r' t' y J1.tw ho' hy).mono ?_
  rintro e w2 ⟨rfl, hb2⟩
  have J2 := J1.below hb2
  have K2 := K1.below hb2
  have hsw2 := hb2.size
  clear J1 K1
  clear y0 y1 y2 y3 y4 y5 y6
  have y0 := J2.bx.at.c0; have y1 := J2.bx.at.c1; have y2 := J2.bx.at.c2; have y3 := J2.bx.at.c3; have y4 := J2.bx.at.c4; have y5 := J2.bx.at.c5; have y6 := J2.bx.at.c6; have x0 := J2.ix.at.c0; have x1 := J2.ix.at.c1; have x2 := J2.ix.at.c2; have x3 := J2.ix.at.c3; have x4 := J2.ix.at.c4; have x5 := J2.ix.at.c5; have x6 := J2.ix.at.c6
  go_wp2_with fail
  refine (refDivF_any w2 x y).mono ?_
  obtain ⟨d, hd⟩ : ∃ d, d = opI .quo x y := ⟨_, rfl⟩
  rw [← hd]
  have HD := Lib.hid hd
  clear hd
  rintro e w3 ⟨rfl, hb3⟩
  have J3 := J2.below hb3
  have K3 := K2.below hb3
  have hs3 := hb3.size
  clear y0 y1 y2 y3 y4 y5 y6 x0 x1 x2 x3 x4 x5 x6 J2 K2
  go_wp2_with fail
  refine (refAddF_any w3 x y).mono ?_
  obtain ⟨v, hv⟩ : ∃ v, v = opI .add x y := ⟨_, rfl⟩
  rw [← hv]
  have HV := Lib.hid hv
  clear hv
  rintro e w4 ⟨rfl, hb4⟩
  have J4 := J3.below hb4
  have K4 := K3.below hb4
  have hs4 := hb4.size
  clear J3 K3
  have bd := op_bd .add x y
  rw [← HV.out] at bd
  have f0 := K4.frozen 0; have f1 := K4.frozen 1; have f2 := K4.frozen 2; have f3 := K4.frozen 3; have f4 := K4.frozen 4; have f5 := K4.frozen 5; have f6 := K4.frozen 6; have q0 := K4.at.c0; have q1 := K4.at.c1; have q2 := K4.at.c2; have q3 := K4.at.c3; have q4 := K4.at.c4; have q5 := K4.at.c5; have q6 := K4.at.c6
  go_wp2
  have C := (K4.put (mkR 3 0 v ⟨#[]⟩ none 0 0)).at
  have hB5 := J4.be.put7 (g := w.heap.size + 1 + 1) (by omega) (mkR 3 0 v ⟨#[]⟩ none 0 0)
  have y0 := C.c0; have y1 := C.c1; have y2 := C.c2; have y3 := C.c3; have y4 := C.c4; have y5 := C.c5; have y6 := C.c6
  clear C f0 f1 f2 f3 f4 f5 f6 q0 q1 q2 q3 q4 q5 q6
  change bodyPost _ _ _ _ _ (put7 w4 (w.heap.size + 1 + 1) (mkR 3 0 v ⟨#[]⟩ none 0 0))
  generalize put7 w4 (w.heap.size + 1 + 1) (mkR 3 0 v ⟨#[]⟩ none 0 0) = W5 at *
  exact bodyPost_ret (v := .tuple #[.agg #[.int .i64 (mkR 3 0 v ⟨#[]⟩ none 0 0).k, .int .i64 (mkR 3 0 v ⟨#[]⟩ none 0 0).n, .bool (mkR 3 0 v ⟨#[]⟩ none 0 0).g, .slice (mkR 3 0 v ⟨#[]⟩ none 0 0).A (mkR 3 0 v ⟨#[]⟩ none 0 0).ln (mkR 3 0 v ⟨#[]⟩ none 0 0).lc, .int .u64 (mkR 3 0 v ⟨#[]⟩ none 0 0).u, .string (mkR 3 0 v ⟨#[]⟩ none 0 0).s, .slice (mkR 3 0 v ⟨#[]⟩ none 0 0).B (mkR 3 0 v ⟨#[]⟩ none 0 0).m (mkR 3 0 v ⟨#[]⟩ none 0 0).d], .int .i64 (-1)]) (by simp [results, Tryz.results7, go_sem, y0, y1, y2, y3, y4, y5, y6]) rfl ⟨mkR 3 0 v ⟨#[]⟩ none 0 0, rfl, by rw [← HV.out]; exact flt_tv bd.1 bd.2, Own.nil _ _, rfl, hB5⟩

set_option maxRecDepth 100000 in
set_option maxHeartbeats 8000000 in
theorem refDo_b6 (w : World) (op : Int) (r r' : TR) (t t' : Tm) (h : TV w r t) (h' : TV w r' t') (ho : t.Ok) (ho' : t'.Ok) (hop : op = 6) (x y : Int) (hx : t.fltO = some x) (hy : t'.fltO = some y) (k1 : t.kind ≠ 3) (k2 : t'.kind = 3) :
    Calls Tryz.prog 7 #[.int .i64 op, .agg #[.int .i64 r.k, .int .i64 r.n, .bool r.g, .slice r.A r.ln r.lc, .int .u64 r.u, .string r.s, .slice r.B r.m r.d], .agg #[.int .i64 r'.k, .int .i64 r'.n, .bool r'.g, .slice r'.A r'.ln r'.lc, .int .u64 r'.u, .string r'.s, .slice r'.B r'.m r'.d]] w (RfP w (some (fltT (opI .sub x y)))) := by
  subst hop
  rw [h.kind] at k1
  rw [h'.kind] at k2
  have e3 : (r.k != 3) = true := bne_iff_ne.2 k1
  have e3' : (r'.k != 3) = false := by rw [k2]; rfl
  clear k1 k2
  have I := (SmI.new h h').below ((Below.refl _ _).alloc (Nat.le_refl _) (.cells #[.int .i64 zeroR.k, .int .i64 zeroR.n, .bool zeroR.g, .slice zeroR.A zeroR.ln zeroR.lc, .int .u64 zeroR.u, .string zeroR.s, .slice zeroR.B zeroR.m zeroR.d] 28))
  have hz := Box7.new ((w.alloc (.cells #[.int .i64 r.k, .int .i64 r.n, .bool r.g, .slice r.A r.ln r.lc, .int .u64 r.u, .string r.s, .slice r.B r.m r.d] 28)).alloc (.cells #[.int .i64 r'.k, .int .i64 r'.n, .bool r'.g, .slice r'.A r'.ln r'.lc, .int .u64 r'.u, .string r'.s, .slice r'.B r'.m r'.d] 28)) zeroR
  simp only [World.size_alloc] at hz
  have hW : (((w.alloc (.cells #[.int .i64 r.k, .int .i64 r.n, .bool r.g, .slice r.A r.ln r.lc, .int .u64 r.u, .string r.s, .slice r.B r.m r.d] 28)).alloc (.cells #[.int .i64 r'.k, .int .i64 r'.n, .bool r'.g, .slice r'.A r'.ln r'.lc, .int .u64 r'.u, .string r'.s, .slice r'.B r'.m r'.d] 28)).alloc (.cells #[.int .i64 zeroR.k, .int .i64 zeroR.n, .bool zeroR.g, .slice zeroR.A zeroR.ln zeroR.lc, .int .u64 zeroR.u, .string zeroR.s, .slice zeroR.B zeroR.m zeroR.d] 28)).heap.size = w.heap.size + 3 := by simp
  go_enter Tryz.func7, Tryz.ntmps7
  go_wp2_with fail
  generalize ((w.alloc (.cells #[.int .i64 r.k, .int .i64 r.n, .bool r.g, .slice r.A r.ln r.lc, .int .u64 r.u, .string r.s, .slice r.B r.m r.d] 28)).alloc (.cells #[.int .i64 r'.k, .int .i64 r'.n, .bool r'.g, .slice r'.A r'.ln r'.lc, .int .u64 r'.u, .string r'.s, .slice r'.B r'.m r'.d] 28)).alloc (.cells #[.int .i64 zeroR.k, .int .i64 zeroR.n, .bool zeroR.g, .slice zeroR.A zeroR.ln zeroR.lc, .int .u64 zeroR.u, .string zeroR.s, .slice zeroR.B zeroR.m zeroR.d] 28) = W at *
  refine (refFloat_yes W r t x I.tv ho hx).mono ?_
  rintro e w1 ⟨rfl, hb1⟩
  have J1 := I.below hb1
  have K1 := hz.below hb1
  have hsw1 := hb1.size
  clear I hz
  have y0 := J1.ix.at.c0; have y1 := J1.ix.at.c1; have y2 := J1.ix.at.c2; have y3 := J1.ix.at.c3; have y4 := J1.ix.at.c4; have y5 := J1.ix.at.c5; have y6 := J1.ix.at.c6
  go_wp2_with fail
  refine (refFloat_yes w1 r' t' y J1.tw ho' hy).mono ?_
  rintro e w2 ⟨rfl, hb2⟩
  have J2 := J1.below hb2
  have K2 := K1.below hb2
  have hsw2 := hb2.size
  clear J1 K1
  clear y0 y1 y2 y3 y4 y5 y6
  have y0 := J2.bx.at.c0; have y1 := J2.bx.at.c1; have y2 := J2.bx.at.c2; have y3 := J2.bx.at.c3; have y4 := J2.bx.at.c4; have y5 := J2.bx.at.c5; have y6 := J2.bx.at.c6; have x0 := J2.ix.at.c0; have x1 := J2.ix.at.c1; have x2 := J2.ix.at.c2; have x3 := J2.ix.at.c3; have x4 := J2.ix.at.c4; have x5 := J2.ix.at.c5; have x6 := J2.ix.at.c6
  go_wp2_with fail
  refine (refDivF_any w2 x y).mono ?_
  obtain ⟨d, hd⟩ : ∃ d, d = opI .quo x y := ⟨_, rfl⟩
  rw [← hd]
  have HD := Lib.hid hd
  clear hd
  rintro e w3 ⟨rfl, hb3⟩
  have J3 := J2.below hb3
  have K3 := K2.below hb3
  have hs3 := hb3.size
  clear y0 y1 y2 y3 y4 y5 y6 x0 x1 x2 x3 x4 x5 x6 J2 K2
  go_wp2_with fail
  refine (refSubF_any w3 x y).mono ?_
  obtain ⟨v, hv⟩ : ∃ v, v = opI .sub x y := ⟨_, rfl⟩
  rw [← hv]
  have HV := Lib.hid hv
  clear hv
  rintro e w4 ⟨rfl, hb4⟩
  have J4 := J3.below hb4
  have K4 := K3.below hb4
  have hs4 := hb4.size
  clear J3 K3
  have bd := op_bd .sub x y
  rw [← HV.out] at bd
  have f0 := K4.frozen 0; have f1 := K4.frozen 1; have f2 := K4.frozen 2; have f3 := K4.frozen 3; have f4 := K4.frozen 4; have f5 := K4.frozen 5; have f6 := K4.frozen 6; have q0 := K4.at.c0; have q1 := K4.at.c1; have q2 := K4.at.c2; have q3 := K4.at.c3; have q4 := K4.at.c4; have q5 := K4.at.c5; have q6 := K4.at.c6
  go_wp2
  have C := (K4.put (mkR 3 0 v ⟨#[]⟩ none 0 0)).at
  have hB5 := J4.be.put7 (g := w.heap.size + 1 + 1) (by omega) (mkR 3 0 v ⟨#[]⟩ none 0 0)
  have y0 := C.c0; have y1 := C.c1; have y2 := C.c2; have y3 := C.c3; have y4 := C.c4; have y5 := C.c5; have y6 := C.c6
  clear C f0 f1 f2 f3 f4 f5 f6 q0 q1 q2 q3 q4 q5 q6
  change bodyPost _ _ _ _ _ (put7 w4 (w.heap.size + 1 + 1) (mkR 3 0 v ⟨#[]⟩ none 0 0))
  generalize put7 w4 (w.heap.size + 1 + 1) (mkR 3 0 v ⟨#[]⟩ none 0 0) = W5 at *
  exact bodyPost_ret (v := .tuple #[.agg #[.int .i64 (mkR 3 0 v ⟨#[]⟩ none 0 0).k, .int .i64 (mkR 3 0 v ⟨#[]⟩ none 0 0).n, .bool (mkR 3 0 v ⟨#[]⟩ none 0 0).g, .slice (mkR 3 0 v ⟨#[]⟩ none 0 0).A (mkR 3 0 v ⟨#[]⟩ none 0 0).ln (mkR 3 0 v ⟨#[]⟩ none 0 0).lc, .int .u64 (mkR 3 0 v ⟨#[]⟩ none 0 0).u, .string (mkR 3 0 v ⟨#[]⟩ none 0 0).s, .slice (mkR 3 0 v ⟨#[]⟩ none 0 0).B (mkR 3 0 v ⟨#[]⟩ none 0 0).m (mkR 3 0 v ⟨#[]⟩ none 0 0).d], .int .i64 (-1)]) (by simp [results, Tryz.results7, go_sem, y0, y1, y2, y3, y4, y5, y6]) rfl ⟨mkR 3 0 v ⟨#[]⟩ none 0 0, rfl, by rw [← HV.out]; exact flt_tv bd.1 bd.2, Own.nil _ _, rfl, hB5⟩

set_option maxRecDepth 100000 in
set_option maxHeartbeats 8000000 in
theorem refDo_b7 (w : World) (op : Int) (r r' : TR) (t t' : Tm) (h : TV w r t) (h' : TV w r' t') (ho : t.Ok) (ho' : t'.Ok) (hop : op = 7) (x y : Int) (hx : t.fltO = some x) (hy : t'.fltO = some y) (k1 : t.kind ≠ 3) (k2 : t'.kind = 3) :
    Calls Tryz.prog 7 #[.int .i64 op, .agg #[.int .i64 r.k, .int .i64 r.n, .bool r.g, .slice r.A r.ln r.lc, .int .u64 r.u, .string r.s, .slice r.B r.m r.d], .agg #[.int .i64 r'.k, .int .i64 r'.n, .bool r'.g, .slice r'.A r'.ln r'.lc, .int .u64 r'.u, .string r'.s, .slice r'.B r'.m r'.d]] w (RfP w (some (fltT (opI .mul x y)))) := by
  subst hop
  rw [h.kind] at k1
  rw [h'.kind] at k2
  have e3 : (r.k != 3) = true := bne_iff_ne.2 k1
  have e3' : (r'.k != 3) = false := by rw [k2]; rfl
  clear k1 k2
  have I := (SmI.new h h').below ((Below.refl _ _).alloc (Nat.le_refl _) (.cells #[.int .i64 zeroR.k, .int .i64 zeroR.n, .bool zeroR.g, .slice zeroR.A zeroR.ln zeroR.lc, .int .u64 zeroR.u, .string zeroR.s, .slice zeroR.B zeroR.m zeroR.d] 28))
  have hz := Box7.new ((w.alloc (.cells #[.int .i64 r.k, .int .i64 r.n, .bool r.g, .slice r.A r.ln r.lc, .int .u64 r.u, .string r.s, .slice r.B r.m r.d] 28)).alloc (.cells #[.int .i64 r'.k, .int .i64 r'.n, .bool r'.g, .slice r'.A r'.ln r'.lc, .int .u64 r'.u, .string r'.s, .slice r'.B r'.m r'.d] 28)) zeroR
  simp only [World.size_alloc] at hz
  have hW : (((w.alloc (.cells #[.int .i64 r.k, .int .i64 r.n, .bool r.g, .slice r.A r.ln r.lc, .int .u64 r.u, .string r.s, .slice r.B r.m r.d] 28)).alloc (.cells #[.int .i64 r'.k, .int .i64 r'.n, .bool r'.g, .slice r'.A r'.ln r'.lc, .int .u64 r'.u, .string r'.s, .slice r'.B r'.m r'.d] 28)).alloc (.cells #[.int .i64 zeroR.k, .int .i64 zeroR.n, .bool zeroR.g, .slice zeroR.A zeroR.ln zeroR.lc, .int .u64 zeroR.u, .string zeroR.s, .slice zeroR.B zeroR.m zeroR.d] 28)).heap.size = w.heap.size + 3 := by simp
  go_enter Tryz.func7, Tryz.ntmps7
  go_wp2_with fail
  generalize ((w.alloc (.cells #[.int .i64 r.k, .int .i64 r.n, .bool r.g, .slice r.A r.ln r.lc, .int .u64 r.u, .string r.s, .slice r.B r.m r.d] 28)).alloc (.cells #[.int .i64 r'.k, .int .i64 r'.n, .bool r'.g, .slice r'.A r'.ln r'.lc, .int .u64 r'.u, .string r'.s, .slice r'.B r'.m r'.d] 28)).alloc (.cells #[.int .i64 zeroR.k, .int .i64 zeroR.n, .bool zeroR.g, .slice zeroR.A zeroR.ln zeroR.lc, .int .u64 zeroR.u, .string zeroR.s, .slice zeroR.B zeroR.m zeroR.d] 28) = W at *
  refine (refFloat_yes W r t x I.tv ho hx).mono ?_
  rintro e w1 ⟨rfl, hb1⟩
  have J1 := I.below hb1
  have K1 := hz.below hb1
  have hsw1 := hb1.size
  clear I hz
  have y0 := J1.ix.at.c0; have y1 := J1.ix.at.c1; have y2 := J1.ix.at.c2; have y3 := J1.ix.at.c3; have y4 := J1.ix.at.c4; have y5 := J1.ix.at.c5; have y6 := J1.ix.at.c6
  go_wp2_with fail
  refine (refFloat_yes w1 r' t' y J1.tw ho' hy).mono ?_
  rintro e w2 ⟨rfl, hb2⟩
  have J2 := J1.below hb2
  have K2 := K1.below hb2
  have hsw2 := hb2.size
  clear J1 K1
  clear y0 y1 y2 y3 y4 y5 y6
  have y0 := J2.bx.at.c0; have y1 := J2.bx.at.c1; have y2 := J2.bx.at.c2; have y3 := J2.bx.at.c3; have y4 := J2.bx.at.c4; have y5 := J2.bx.at.c5; have y6 := J2.bx.at.c6; have x0 := J2.ix.at.c0; have x1 := J2.ix.at.c1; have x2 := J2.ix.at.c2; have x3 := J2.ix.at.c3; have x4 := J2.ix.at.c4; have x5 := J2.ix.at.c5; have x6 := J2.ix.at.c6
  go_wp2_with fail
  refine (refDivF_any w2 x y).mono ?_
  obtain ⟨d, hd⟩ : ∃ d, d = opI .quo x y := ⟨_, rfl⟩
  rw [← hd]
  have HD := Lib.hid hd
  clear hd
  rintro e w3 ⟨rfl, hb3⟩
  have J3 := J2.below hb3
  have K3 := K2.below hb3
  have hs3 := hb3.size
  clear y0 y1 y2 y3 y4 y5 y6 x0 x1 x2 x3 x4 x5 x6 J2 K2
  go_wp2_with fail
  refine (refMulF_any w3 x y).mono ?_
  obtain ⟨v, hv⟩ : ∃ v, v = opI .mul x y := ⟨_, rfl⟩
  rw [← hv]
  have HV := Lib.hid hv
  clear hv
  rintro e w4 ⟨rfl, hb4⟩
  have J4 := J3.below hb4
  have K4 := K3.below hb4
  have hs4 := hb4.size
  clear J3 K3
  have bd := op_bd .mul x y
  rw [← HV.out] at bd
  have f0 := K4.frozen 0; have f1 := K4.frozen 1; have f2 := K4.frozen 2; have f3 := K4.frozen 3; have f4 := K4.frozen 4; have f5 := K4.frozen 5; have f6 := K4.frozen 6; have q0 := K4.at.c0; have q1 := K4.at.c1; have q2 := K4.at.c2; have q3 := K4.at.c3; have q4 := K4.at.c4; have q5 := K4.at.c5; have q6 := K4.at.c6
  go_wp2
  have C := (K4.put (mkR 3 0 v ⟨#[]⟩ none 0 0)).at
  have hB5 := J4.be.put7 (g := w.heap.size + 1 + 1) (by omega) (mkR 3 0 v ⟨#[]⟩ none 0 0)
  have y0 := C.c0; have y1 := C.c1; have y2 := C.c2; have y3 := C.c3; have y4 := C.c4; have y5 := C.c5; have y6 := C.c6
  clear C f0 f1 f2 f3 f4 f5 f6 q0 q1 q2 q3 q4 q5 q6
  change bodyPost _ _ _ _ _ (put7 w4 (w.heap.size + 1 + 1) (mkR 3 0 v ⟨#[]⟩ none 0 0))
  generalize put7 w4 (w.heap.size + 1 + 1) (mkR 3 0 v ⟨#[]⟩ none 0 0) = W5 at *
  exact bodyPost_ret (v := .tuple #[.agg #[.int .i64 (mkR 3 0 v ⟨#[]⟩ none 0 0).k, .int .i64 (mkR 3 0 v ⟨#[]⟩ none 0 0).n, .bool (mkR 3 0 v ⟨#[]⟩ none 0 0).g, .slice (mkR 3 0 v ⟨#[]⟩ none 0 0).A (mkR 3 0 v ⟨#[]⟩ none 0 0).ln (mkR 3 0 v ⟨#[]⟩ none 0 0).lc, .int .u64 (mkR 3 0 v ⟨#[]⟩ none 0 0).u, .string (mkR 3 0 v ⟨#[]⟩ none 0 0).s, .slice (mkR 3 0 v ⟨#[]⟩ none 0 0).B (mkR 3 0 v ⟨#[]⟩ none 0 0).m (mkR 3 0 v ⟨#[]⟩ none 0 0).d], .int .i64 (-1)]) (by simp [results, Tryz.results7, go_sem, y0, y1, y2, y3, y4, y5, y6]) rfl ⟨mkR 3 0 v ⟨#[]⟩ none 0 0, rfl, by rw [← HV.out]; exact flt_tv bd.1 bd.2, Own.nil _ _, rfl, hB5⟩

set_option maxRecDepth 100000 in
set_option maxHeartbeats 8000000 in
theorem refDo_b8 (w : World) (op : Int) (r r' : TR) (t t' : Tm) (h : TV w r t) (h' : TV w r' t') (ho : t.Ok) (ho' : t'.Ok) (hop : op = 8) (x y : Int) (hx : t.fltO = some x) (hy : t'.fltO = some y) (k1 : t.kind ≠ 3) (k2 : t'.kind = 3) :
    Calls Tryz.prog 7 #[.int .i64 op, .agg #[.int .i64 r.k, .int .i64 r.n, .bool r.g, .slice r.A r.ln r.lc, .int .u64 r.u, .string r.s, .slice r.B r.m r.d], .agg #[.int .i64 r'.k, .int .i64 r'.n, .bool r'.g, .slice r'.A r'.ln r'.lc, .int .u64 r'.u, .string r'.s, .slice r'.B r'.m r'.d]] w (RfP w (some (fltT (opI .quo x y)))) := by
  subst hop
  rw [h.kind] at k1
  rw [h'.kind] at k2
  have e3 : (r.k != 3) = true := bne_iff_ne.2 k1
  have e3' : (r'.k != 3) = false := by rw [k2]; rfl
  clear k1 k2
  have I := (SmI.new h h').below ((Below.refl _ _).alloc (Nat.le_refl _) (.cells #[.int .i64 zeroR.k, .int .i64 zeroR.n, .bool zeroR.g, .slice zeroR.A zeroR.ln zeroR.lc, .int .u64 zeroR.u, .string zeroR.s, .slice zeroR.B zeroR.m zeroR.d] 28))
  have hz := Box7.new ((w.alloc (.cells #[.int .i64 r.k, .int .i64 r.n, .bool r.g, .slice r.A r.ln r.lc, .int .u64 r.u, .string r.s, .slice r.B r.m r.d] 28)).alloc (.cells #[.int .i64 r'.k, .int .i64 r'.n, .bool r'.g, .slice r'.A r'.ln r'.lc, .int .u64 r'.u, .string r'.s, .slice r'.B r'.m r'.d] 28)) zeroR
  simp only [World.size_alloc] at hz
  have hW : (((w.alloc (.cells #[.int .i64 r.k, .int .i64 r.n, .bool r.g, .slice r.A r.ln r.lc, .int .u64 r.u, .string r.s, .slice r.B r.m r.d] 28)).alloc (.cells #[.int .i64 r'.k, .int .i64 r'.n, .bool r'.g, .slice r'.A r'.ln r'.lc, .int .u64 r'.u, .string r'.s, .slice r'.B r'.m r'.d] 28)).alloc (.cells #[.int .i64 zeroR.k, .int .i64 zeroR.n, .bool zeroR.g, .slice zeroR.A zeroR.ln zeroR.lc, .int .u64 zeroR.u, .string zeroR.s, .slice zeroR.B zeroR.m zeroR.d] 28)).heap.size = w.heap.size + 3 := by simp
  go_enter Tryz.func7, Tryz.ntmps7
  go_wp2_with fail
  generalize ((w.alloc (.cells #[.int .i64 r.k, .int .i64 r.n, .bool r.g, .slice r.A r.ln r.lc, .int .u64 r.u, .string r.s, .slice r.B r.m r.d] 28)).alloc (.cells #[.int .i64 r'.k, .int .i64 r'.n, .bool r'.g, .slice r'.A r'.ln r'.lc, .int .u64 r'.u, .string r'.s, .slice r'.B r'.m r'.d] 28)).alloc (.cells #[.int .i64 zeroR.k, .int .i64 zeroR.n, .bool zeroR.g, .slice zeroR.A zeroR.ln zeroR.lc, .int .u64 zeroR.u, .string zeroR.s, .slice zeroR.B zeroR.m zeroR.d] 28) = W at *
  refine (refFloat_yes W r t x I.tv ho hx).mono ?_
  rintro e w1 ⟨rfl, hb1⟩
  have J1 := I.below hb1
  have K1 := hz.below hb1
  have hsw1 := hb1.size
  clear I hz
  have y0 := J1.ix.at.c0; have y1 := J1.ix.at.c1; have y2 := J1.ix.at.c2; have y3 := J1.ix.at.c3; have y4 := J1.ix.at.c4; have y5 := J1.ix.at.c5; have y6 := J1.ix.at.c6
  go_wp2_with fail
  refine (refFloat_yes w1 r' t' y J1.tw ho' hy).mono ?_
  rintro e w2 ⟨rfl, hb2⟩
  have J2 := J1.below hb2
  have K2 := K1.below hb2
  have hsw2 := hb2.size
  clear J1 K1
  clear y0 y1 y2 y3 y4 y5 y6
  have y0 := J2.bx.at.c0; have y1 := J2.bx.at.c1; have y2 := J2.bx.at.c2; have y3 := J2.bx.at.c3; have y4 := J2.bx.at.c4; have y5 := J2.bx.at.c5; have y6 := J2.bx.at.c6; have x0 := J2.ix.at.c0; have x1 := J2.ix.at.c1; have x2 := J2.ix.at.c2; have x3 := J2.ix.at.c3; have x4 := J2.ix.at.c4; have x5 := J2.ix.at.c5; have x6 := J2.ix.at.c6
  go_wp2_with fail
  refine (refDivF_any w2 x y).mono ?_
  obtain ⟨d, hd⟩ : ∃ d, d = opI .quo x y := ⟨_, rfl⟩
  rw [← hd]
  have HD := Lib.hid hd
  clear hd
  rintro e w3 ⟨rfl, hb3⟩
  have J3 := J2.below hb3
  have K3 := K2.below hb3
  have hs3 := hb3.size
  clear y0 y1 y2 y3 y4 y5 y6 x0 x1 x2 x3 x4 x5 x6 J2 K2
  have bd := op_bd .quo x y
  rw [← HD.out] at bd
  have f0 := K3.frozen 0; have f1 := K3.frozen 1; have f2 := K3.frozen 2; have f3 := K3.frozen 3; have f4 := K3.frozen 4; have f5 := K3.frozen 5; have f6 := K3.frozen 6; have q0 := K3.at.c0; have q1 := K3.at.c1; have q2 := K3.at.c2; have q3 := K3.at.c3; have q4 := K3.at.c4; have q5 := K3.at.c5; have q6 := K3.at.c6
  go_wp2
  have C := (K3.put (mkR 3 0 d ⟨#[]⟩ none 0 0)).at
  have hB5 := J3.be.put7 (g := w.heap.size + 1 + 1) (by omega) (mkR 3 0 d ⟨#[]⟩ none 0 0)
  have y0 := C.c0; have y1 := C.c1; have y2 := C.c2; have y3 := C.c3; have y4 := C.c4; have y5 := C.c5; have y6 := C.c6
  clear C f0 f1 f2 f3 f4 f5 f6 q0 q1 q2 q3 q4 q5 q6
  change bodyPost _ _ _ _ _ (put7 w3 (w.heap.size + 1 + 1) (mkR 3 0 d ⟨#[]⟩ none 0 0))
  generalize put7 w3 (w.heap.size + 1 + 1) (mkR 3 0 d ⟨#[]⟩ none 0 0) = W5 at *
  exact bodyPost_ret (v := .tuple #[.agg #[.int .i64 (mkR 3 0 d ⟨#[]⟩ none 0 0).k, .int .i64 (mkR 3 0 d ⟨#[]⟩ none 0 0).n, .bool (mkR 3 0 d ⟨#[]⟩ none 0 0).g, .slice (mkR 3 0 d ⟨#[]⟩ none 0 0).A (mkR 3 0 d ⟨#[]⟩ none 0 0).ln (mkR 3 0 d ⟨#[]⟩ none 0 0).lc, .int .u64 (mkR 3 0 d ⟨#[]⟩ none 0 0).u, .string (mkR 3 0 d ⟨#[]⟩ none 0 0).s, .slice (mkR 3 0 d ⟨#[]⟩ none 0 0).B (mkR 3 0 d ⟨#[]⟩ none 0 0).m (mkR 3 0 d ⟨#[]⟩ none 0 0).d], .int .i64 (-1)]) (by simp [results, Tryz.results7, go_sem, y0, y1, y2, y3, y4, y5, y6]) rfl ⟨mkR 3 0 d ⟨#[]⟩ none 0 0, rfl, by rw [← HD.out]; exact flt_tv bd.1 bd.2, Own.nil _ _, rfl, hB5⟩

set_option maxRecDepth 100000 in
set_option maxHeartbeats 8000000 in
theorem refDo_d8 (w : World) (op : Int) (r r' : TR) (t t' : Tm) (h : TV w r t) (h' : TV w r' t') (ho : t.Ok) (ho' : t'.Ok) (hop : op = 8) (x y : Int) (hx : t.fltO = some x) (hy : t'.fltO = some y) (k1 : t.kind ≠ 3) (k2 : t'.kind ≠ 3) :
    Calls Tryz.prog 7 #[.int .i64 op, .agg #[.int .i64 r.k, .int .i64 r.n, .bool r.g, .slice r.A r.ln r.lc, .int .u64 r.u, .string r.s, .slice r.B r.m r.d], .agg #[.int .i64 r'.k, .int .i64 r'.n, .bool r'.g, .slice r'.A r'.ln r'.lc, .int .u64 r'.u, .string r'.s, .slice r'.B r'.m r'.d]] w (RfP w (some (fltT (opI .quo x y)))) := by
  subst hop
  rw [h.kind] at k1
  rw [h'.kind] at k2
  have e3 : (r.k != 3) = true := bne_iff_ne.2 k1
  have e3' : (r'.k != 3) = true := bne_iff_ne.2 k2
  have I := (SmI.new h h').below ((Below.refl _ _).alloc (Nat.le_refl _) (.cells #[.int .i64 zeroR.k, .int .i64 zeroR.n, .bool zeroR.g, .slice zeroR.A zeroR.ln zeroR.lc, .int .u64 zeroR.u, .string zeroR.s, .slice zeroR.B zeroR.m zeroR.d] 28))
  have hz := Box7.new ((w.alloc (.cells #[.int .i64 r.k, .int .i64 r.n, .bool r.g, .slice r.A r.ln r.lc, .int .u64 r.u, .string r.s, .slice r.B r.m r.d] 28)).alloc (.cells #[.int .i64 r'.k, .int .i64 r'.n, .bool r'.g, .slice r'.A r'.ln r'.lc, .int .u64 r'.u, .string r'.s, .slice r'.B r'.m r'.d] 28)) zeroR
  simp only [World.size_alloc] at hz
  have hW : (((w.alloc (.cells #[.int .i64 r.k, .int .i64 r.n, .bool r.g, .slice r.A r.ln r.lc, .int .u64 r.u, .string r.s, .slice r.B r.m r.d] 28)).alloc (.cells #[.int .i64 r'.k, .int .i64 r'.n, .bool r'.g, .slice r'.A r'.ln r'.lc, .int .u64 r'.u, .string r'.s, .slice r'.B r'.m r'.d] 28)).alloc (.cells #[.int .i64 zeroR.k, .int .i64 zeroR.n, .bool zeroR.g, .slice zeroR.A zeroR.ln zeroR.lc, .int .u64 zeroR.u, .string zeroR.s, .slice zeroR.B zeroR.m zeroR.d] 28)).heap.size = w.heap.size + 3 := by simp
  go_enter Tryz.func7, Tryz.ntmps7
  go_wp2_with fail
  generalize ((w.alloc (.cells #[.int .i64 r.k, .int .i64 r.n, .bool r.g, .slice r.A r.ln r.lc, .int .u64 r.u, .string r.s, .slice r.B r.m r.d] 28)).alloc (.cells #[.int .i64 r'.k, .int .i64 r'.n, .bool r'.g, .slice r'.A r'.ln r'.lc, .int .u64 r'.u, .string r'.s, .slice r'.B r'.m r'.d] 28)).alloc (.cells #[.int .i64 zeroR.k, .int .i64 zeroR.n, .bool zeroR.g, .slice zeroR.A zeroR.ln zeroR.lc, .int .u64 zeroR.u, .string zeroR.s, .slice zeroR.B zeroR.m zeroR.d] 28) = W at *
  refine (refFloat_yes W r t x I.tv ho hx).mono ?_
  rintro e w1 ⟨rfl, hb1⟩
  have J1 := I.below hb1
  have K1 := hz.below hb1
  have hsw1 := hb1.size
  clear I hz
  have y0 := J1.ix.at.c0; have y1 := J1.ix.at.c1; have y2 := J1.ix.at.c2; have y3 := J1.ix.at.c3; have y4 := J1.ix.at.c4; have y5 := J1.ix.at.c5; have y6 := J1.ix.at.c6
  go_wp2_with fail
  refine (refFloat_yes w1 r' t' y J1.tw ho' hy).mono ?_
  rintro e w2 ⟨rfl, hb2⟩
  have J2 := J1.below hb2
  have K2 := K1.below hb2
  have hsw2 := hb2.size
  clear J1 K1
  clear y0 y1 y2 y3 y4 y5 y6
  have y0 := J2.bx.at.c0; have y1 := J2.bx.at.c1; have y2 := J2.bx.at.c2; have y3 := J2.bx.at.c3; have y4 := J2.bx.at.c4; have y5 := J2.bx.at.c5; have y6 := J2.bx.at.c6; have x0 := J2.ix.at.c0; have x1 := J2.ix.at.c1; have x2 := J2.ix.at.c2; have x3 := J2.ix.at.c3; have x4 := J2.ix.at.c4; have x5 := J2.ix.at.c5; have x6 := J2.ix.at.c6
  go_wp2_with fail
  refine (refDivF_any w2 x y).mono ?_
  obtain ⟨d, hd⟩ : ∃ d, d = opI .quo x y := ⟨_, rfl⟩
  rw [← hd]
  have HD := Lib.hid hd
  clear hd
  rintro e w3 ⟨rfl, hb3⟩
  have J3 := J2.below hb3
  have K3 := K2.below hb3
  have hs3 := hb3.size
  clear y0 y1 y2 y3 y4 y5 y6 x0 x1 x2 x3 x4 x5 x6 J2 K2
  have bd := op_bd .quo x y
  rw [← HD.out] at bd
  have f0 := K3.frozen 0; have f1 := K3.frozen 1; have f2 := K3.frozen 2; have f3 := K3.frozen 3; have f4 := K3.frozen 4; have f5 := K3.frozen 5; have f6 := K3.frozen 6; have q0 := K3.at.c0; have q1 := K3.at.c1; have q2 := K3.at.c2; have q3 := K3.at.c3; have q4 := K3.at.c4; have q5 := K3.at.c5; have q6 := K3.at.c6
  go_wp2
  have C := (K3.put (mkR 3 0 d ⟨#[]⟩ none 0 0)).at
  have hB5 := J3.be.put7 (g := w.heap.size + 1 + 1) (by omega) (mkR 3 0 d ⟨#[]⟩ none 0 0)
  have y0 := C.c0; have y1 := C.c1; have y2 := C.c2; have y3 := C.c3; have y4 := C.c4; have y5 := C.c5; have y6 := C.c6
  clear C f0 f1 f2 f3 f4 f5 f6 q0 q1 q2 q3 q4 q5 q6
  change bodyPost _ _ _ _ _ (put7 w3 (w.heap.size + 1 + 1) (mkR 3 0 d ⟨#[]⟩ none 0 0))
  generalize put7 w3 (w.heap.size + 1 + 1) (mkR 3 0 d ⟨#[]⟩ none 0 0) = W5 at *
  exact bodyPost_ret (v := .tuple #[.agg #[.int .i64 (mkR 3 0 d ⟨#[]⟩ none 0 0).k, .int .i64 (mkR 3 0 d ⟨#[]⟩ none 0 0).n, .bool (mkR 3 0 d ⟨#[]⟩ none 0 0).g, .slice (mkR 3 0 d ⟨#[]⟩ none 0 0).A (mkR 3 0 d ⟨#[]⟩ none 0 0).ln (mkR 3 0 d ⟨#[]⟩ none 0 0).lc, .int .u64 (mkR 3 0 d ⟨#[]⟩ none 0 0).u, .string (mkR 3 0 d ⟨#[]⟩ none 0 0).s, .slice (mkR 3 0 d ⟨#[]⟩ none 0 0).B (mkR 3 0 d ⟨#[]⟩ none 0 0).m (mkR 3 0 d ⟨#[]⟩ none 0 0).d], .int .i64 (-1)]) (by simp [results, Tryz.results7, go_sem, y0, y1, y2, y3, y4, y5, y6]) rfl ⟨mkR 3 0 d ⟨#[]⟩ none 0 0, rfl, by rw [← HD.out]; exact flt_tv bd.1 bd.2, Own.nil _ _, rfl, hB5⟩

end Go.Proofs.YtompimbeaeinbaaGreat
