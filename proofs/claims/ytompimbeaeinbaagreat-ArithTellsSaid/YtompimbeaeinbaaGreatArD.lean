/-
  PACKAGE arith: ofIntegers, compute.
-/
import Derived.Test.YtompimbeaeinbaaGreatArC
namespace Go.Proofs.YtompimbeaeinbaaGreat
open Go.RowKit

set_option maxRecDepth 100000 in
set_option maxHeartbeats 4000000 in
theorem ofInt_bad (w : World) (op : Int) (s s' : Bool) (A B : Option Addr) (n c m d : Nat) (h5 : op ≠ 5) (h6 : op ≠ 6) (h7 : op ≠ 7) :
    Calls Tryz.prog 29 #[.int .i64 op, .agg #[.bool s, .slice A n c], .agg #[.bool s', .slice B m d]] w (BadP w) := by
  have e5 : (op == 5) = false := beq_eq_false_iff_ne.2 h5
  have e6 : (op == 6) = false := beq_eq_false_iff_ne.2 h6
  have e7 : (op == 7) = false := beq_eq_false_iff_ne.2 h7
  clear h5 h6 h7
  have b0 := ((((Below.refl w.heap.size w).alloc (Nat.le_refl _) (.cells #[.bool s, .slice A n c] 24)).alloc (by simp) (.cells #[.bool s', .slice B m d] 24)).alloc (by simp; omega) (.cells #[.int .i64 zeroR.k, .int .i64 zeroR.n, .bool zeroR.g, .slice zeroR.A zeroR.ln zeroR.lc, .int .u64 zeroR.u, .string zeroR.s, .slice zeroR.B zeroR.m zeroR.d] 28)).alloc (by simp; omega) (.cells #[.bool false, .slice none 0 0] 24)
  go_enter Tryz.func29, Tryz.ntmps29
  go_wp2
  exact ⟨rfl, rfl, b0⟩
section
variable (w : World) (op : Int) (s s' : Bool) (A B : Option Addr) (n c m d : Nat) (x y : Int) (h : Nm w s A n c x) (h' : Nm w s' B m d y) (ht : x.natAbs < Lm.top) (ht' : y.natAbs < Lm.top)
include h h' ht ht'
set_option maxRecDepth 100000 in
theorem ofIntegers_some (v : Int) (hv : whO op x y = some v) : Calls Tryz.prog 29 #[.int .i64 op, .agg #[.bool s, .slice A n c], .agg #[.bool s', .slice B m d]] w (MadeP w (intT v)) := by
  unfold whO at hv
  by_cases h5 : op = 5
  · rw [if_pos h5] at hv
    obtain ⟨rfl, hf⟩ := ifFits_some hv
    subst h5
    exact ofInt_add w s s' A B n c m d x y h h' ht ht' hf
  rw [if_neg h5] at hv
  by_cases h6 : op = 6
  · rw [if_pos h6] at hv
    obtain ⟨rfl, hf⟩ := ifFits_some hv
    subst h6
    exact ofInt_sub w s s' A B n c m d x y h h' ht ht' hf
  rw [if_neg h6] at hv
  by_cases h7 : op = 7
  · rw [if_pos h7] at hv
    obtain ⟨rfl, hf⟩ := ifFits_some hv
    subst h7
    exact ofInt_mul w s s' A B n c m d x y h h' ht ht' hf
  rw [if_neg h7] at hv
  simp at hv
set_option maxRecDepth 100000 in
theorem ofIntegers_none (hv : whO op x y = none) : Calls Tryz.prog 29 #[.int .i64 op, .agg #[.bool s, .slice A n c], .agg #[.bool s', .slice B m d]] w (BadP w) := by
  unfold whO at hv
  by_cases h5 : op = 5
  · rw [if_pos h5] at hv
    subst h5
    exact ofInt_add_no w s s' A B n c m d x y h h' ht ht' (ifFits_none hv)
  rw [if_neg h5] at hv
  by_cases h6 : op = 6
  · rw [if_pos h6] at hv
    subst h6
    exact ofInt_sub_no w s s' A B n c m d x y h h' ht ht' (ifFits_none hv)
  rw [if_neg h6] at hv
  by_cases h7 : op = 7
  · rw [if_pos h7] at hv
    subst h7
    exact ofInt_mul_no w s s' A B n c m d x y h h' ht ht' (ifFits_none hv)
  exact ofInt_bad w op s s' A B n c m d h5 h6 h7
end

/-- The term of a float. -/
def fltT (u : Int) : Tm := .mk 3 0 false [] u ⟨#[]⟩ []
set_option maxRecDepth 100000 in
theorem flt_cases {op : Int} {r r' : TR} (hk : op = 8 ∨ r.k = 3 ∨ r'.k = 3) : (op == 8) = true ∨ ((op == 8) = false ∧ (r.k == 3) = true) ∨ ((op == 8) = false ∧ (r.k == 3) = false ∧ (r'.k == 3) = true) := by
  by_cases h8 : op = 8
  · exact .inl (by rw [h8]; rfl)
  by_cases h3 : r.k = 3
  · exact .inr (.inl ⟨beq_eq_false_iff_ne.2 h8, by rw [h3]; rfl⟩)
  · exact .inr (.inr ⟨beq_eq_false_iff_ne.2 h8, beq_eq_false_iff_ne.2 h3, by rw [(hk.resolve_left h8).resolve_left h3]; rfl⟩)

set_option maxRecDepth 100000 in
set_option maxHeartbeats 4000000 in
theorem compute_flt_ok (w : World) (op : Int) (r r' : TR) (t t' : Tm) (h : TV w r t) (h' : TV w r' t') (ho : t.Ok) (ho' : t'.Ok) (hk : op = 8 ∨ t.kind = 3 ∨ t'.kind = 3) (x y v : Int) (hx : t.fltO = some x) (hy : t'.fltO = some y) (hv : flO op x y = some v) (vlo : 0 ≤ v) (vhi : v ≤ 18446744073709551615) :
    Calls Tryz.prog 14 #[.int .i64 op, .agg #[.int .i64 r.k, .int .i64 r.n, .bool r.g, .slice r.A r.ln r.lc, .int .u64 r.u, .string r.s, .slice r.B r.m r.d], .agg #[.int .i64 r'.k, .int .i64 r'.n, .bool r'.g, .slice r'.A r'.ln r'.lc, .int .u64 r'.u, .string r'.s, .slice r'.B r'.m r'.d]] w (MadeP w (fltT v)) := by
  rw [h.kind, h'.kind] at hk
  have I := (SmI.new h h').below ((Below.refl _ _).alloc (Nat.le_refl _) (.cells #[.int .i64 zeroR.k, .int .i64 zeroR.n, .bool zeroR.g, .slice zeroR.A zeroR.ln zeroR.lc, .int .u64 zeroR.u, .string zeroR.s, .slice zeroR.B zeroR.m zeroR.d] 28))
  have hz := Box7.new ((w.alloc (.cells #[.int .i64 r.k, .int .i64 r.n, .bool r.g, .slice r.A r.ln r.lc, .int .u64 r.u, .string r.s, .slice r.B r.m r.d] 28)).alloc (.cells #[.int .i64 r'.k, .int .i64 r'.n, .bool r'.g, .slice r'.A r'.ln r'.lc, .int .u64 r'.u, .string r'.s, .slice r'.B r'.m r'.d] 28)) zeroR
  simp only [World.size_alloc] at hz
  have hW : (((w.alloc (.cells #[.int .i64 r.k, .int .i64 r.n, .bool r.g, .slice r.A r.ln r.lc, .int .u64 r.u, .string r.s, .slice r.B r.m r.d] 28)).alloc (.cells #[.int .i64 r'.k, .int .i64 r'.n, .bool r'.g, .slice r'.A r'.ln r'.lc, .int .u64 r'.u, .string r'.s, .slice r'.B r'.m r'.d] 28)).alloc (.cells #[.int .i64 zeroR.k, .int .i64 zeroR.n, .bool zeroR.g, .slice zeroR.A zeroR.ln zeroR.lc, .int .u64 zeroR.u, .string zeroR.s, .slice zeroR.B zeroR.m zeroR.d] 28)).heap.size = w.heap.size + 1 + 1 + 1 := by simp
  have hc := flt_cases hk
  clear hk
  go_enter Tryz.func14, Tryz.ntmps14
  rcases hc with e8 | ⟨e8, e3⟩ | ⟨e8, e3, e3'⟩
  all_goals
    go_upto_region 2 with fail
    generalize ((w.alloc (.cells #[.int .i64 r.k, .int .i64 r.n, .bool r.g, .slice r.A r.ln r.lc, .int .u64 r.u, .string r.s, .slice r.B r.m r.d] 28)).alloc (.cells #[.int .i64 r'.k, .int .i64 r'.n, .bool r'.g, .slice r'.A r'.ln r'.lc, .int .u64 r'.u, .string r'.s, .slice r'.B r'.m r'.d] 28)).alloc (.cells #[.int .i64 zeroR.k, .int .i64 zeroR.n, .bool zeroR.g, .slice zeroR.A zeroR.ln zeroR.lc, .int .u64 zeroR.u, .string zeroR.s, .slice zeroR.B zeroR.m zeroR.d] 28) = W at *
    have J := I.drew
    have K0 := Lib.hid (hz.below (Below.refl _ _).drew)
    have hWd : W.drew.heap.size = w.heap.size + 1 + 1 + 1 := hW
    have n1 : w.heap.size + 1 + 1 ≠ w.heap.size := by omega
    have n2 : w.heap.size + 1 + 1 ≠ w.heap.size + 1 := by omega
    clear I hz
    go_region_held3 (fun w' => (w'.cell? ⟨w.heap.size, 0, none⟩ = some (.int .i64 r.k) ∧ w'.cell? ⟨w.heap.size, 1, none⟩ = some (.int .i64 r.n) ∧ w'.cell? ⟨w.heap.size, 2, none⟩ = some (.bool r.g) ∧ w'.cell? ⟨w.heap.size, 3, none⟩ = some (.slice r.A r.ln r.lc) ∧ w'.cell? ⟨w.heap.size, 4, none⟩ = some (.int .u64 r.u) ∧ w'.cell? ⟨w.heap.size, 5, none⟩ = some (.string r.s) ∧ w'.cell? ⟨w.heap.size, 6, none⟩ = some (.slice r.B r.m r.d)) ∧ (w'.cell? ⟨w.heap.size + 1, 0, none⟩ = some (.int .i64 r'.k) ∧ w'.cell? ⟨w.heap.size + 1, 1, none⟩ = some (.int .i64 r'.n) ∧ w'.cell? ⟨w.heap.size + 1, 2, none⟩ = some (.bool r'.g) ∧ w'.cell? ⟨w.heap.size + 1, 3, none⟩ = some (.slice r'.A r'.ln r'.lc) ∧ w'.cell? ⟨w.heap.size + 1, 4, none⟩ = some (.int .u64 r'.u) ∧ w'.cell? ⟨w.heap.size + 1, 5, none⟩ = some (.string r'.s) ∧ w'.cell? ⟨w.heap.size + 1, 6, none⟩ = some (.slice r'.B r'.m r'.d)))
      (first | with_reducible exact ⟨⟨J.bx.at.c0, J.bx.at.c1, J.bx.at.c2, J.bx.at.c3, J.bx.at.c4, J.bx.at.c5, J.bx.at.c6⟩, J.ix.at.c0, J.ix.at.c1, J.ix.at.c2, J.ix.at.c3, J.ix.at.c4, J.ix.at.c5, J.ix.at.c6⟩ | with_reducible exact ⟨⟨J1.bx.at.c0, J1.bx.at.c1, J1.bx.at.c2, J1.bx.at.c3, J1.bx.at.c4, J1.bx.at.c5, J1.bx.at.c6⟩, J1.ix.at.c0, J1.ix.at.c1, J1.ix.at.c2, J1.ix.at.c3, J1.ix.at.c4, J1.ix.at.c5, J1.ix.at.c6⟩ | with_reducible exact ⟨⟨J2.bx.at.c0, J2.bx.at.c1, J2.bx.at.c2, J2.bx.at.c3, J2.bx.at.c4, J2.bx.at.c5, J2.bx.at.c6⟩, J2.ix.at.c0, J2.ix.at.c1, J2.ix.at.c2, J2.ix.at.c3, J2.ix.at.c4, J2.ix.at.c5, J2.ix.at.c6⟩ | with_reducible exact ⟨⟨J3.bx.at.c0, J3.bx.at.c1, J3.bx.at.c2, J3.bx.at.c3, J3.bx.at.c4, J3.bx.at.c5, J3.bx.at.c6⟩, J3.ix.at.c0, J3.ix.at.c1, J3.ix.at.c2, J3.ix.at.c3, J3.ix.at.c4, J3.ix.at.c5, J3.ix.at.c6⟩ | exact ⟨⟨(J3.bx.put' n1 (mkR 3 0 v ⟨#[]⟩ none 0 0)).at.c0, (J3.bx.put' n1 (mkR 3 0 v ⟨#[]⟩ none 0 0)).at.c1, (J3.bx.put' n1 (mkR 3 0 v ⟨#[]⟩ none 0 0)).at.c2, (J3.bx.put' n1 (mkR 3 0 v ⟨#[]⟩ none 0 0)).at.c3, (J3.bx.put' n1 (mkR 3 0 v ⟨#[]⟩ none 0 0)).at.c4, (J3.bx.put' n1 (mkR 3 0 v ⟨#[]⟩ none 0 0)).at.c5, (J3.bx.put' n1 (mkR 3 0 v ⟨#[]⟩ none 0 0)).at.c6⟩, (J3.ix.put' n2 (mkR 3 0 v ⟨#[]⟩ none 0 0)).at.c0, (J3.ix.put' n2 (mkR 3 0 v ⟨#[]⟩ none 0 0)).at.c1, (J3.ix.put' n2 (mkR 3 0 v ⟨#[]⟩ none 0 0)).at.c2, (J3.ix.put' n2 (mkR 3 0 v ⟨#[]⟩ none 0 0)).at.c3, (J3.ix.put' n2 (mkR 3 0 v ⟨#[]⟩ none 0 0)).at.c4, (J3.ix.put' n2 (mkR 3 0 v ⟨#[]⟩ none 0 0)).at.c5, (J3.ix.put' n2 (mkR 3 0 v ⟨#[]⟩ none 0 0)).at.c6⟩)
      (first
        | (go_at_call 28; have Q := float_yes W.drew r t x J.tv ho hx; (with_reducible refine Q.mono ?_); clear Q; rintro e v1 ⟨rfl, hv1⟩; have J1 := J.below hv1; have K1 := Lib.hid (K0.out.below hv1); have hs1 := hv1.size; clear J K0)
        | (go_at_call 28; have Q := float_yes v1 r' t' y J1.tw ho' hy; (with_reducible refine Q.mono ?_); clear Q; rintro e v2 ⟨rfl, hv2⟩; have J2 := J1.below hv2; have K2 := Lib.hid (K1.out.below hv2); have hs2 := hv2.size; clear J1 K1)
        | (go_at_call 27; have Q := ofFloats_some v2 op x y v hv; (with_reducible refine Q.mono ?_); clear Q; rintro e v3 ⟨rfl, hv3⟩; have J3 := J2.below hv3; have K3 := K2.out.below hv3; have hs3 := hv3.size; clear J2 K2; have f0 := K3.frozen 0; have f1 := K3.frozen 1; have f2 := K3.frozen 2; have f3 := K3.frozen 3; have f4 := K3.frozen 4; have f5 := K3.frozen 5; have f6 := K3.frozen 6; have q0 := K3.at.c0; have q1 := K3.at.c1; have q2 := K3.at.c2; have q3 := K3.at.c3; have q4 := K3.at.c4; have q5 := K3.at.c5; have q6 := K3.at.c6))
    go_wp2
    have C := (K3.put (mkR 3 0 v ⟨#[]⟩ none 0 0)).at
    have hB5 := J3.be.put7 (g := w.heap.size + 1 + 1) (by omega) (mkR 3 0 v ⟨#[]⟩ none 0 0)
    have y0 := C.c0; have y1 := C.c1; have y2 := C.c2; have y3 := C.c3; have y4 := C.c4; have y5 := C.c5; have y6 := C.c6
    clear C f0 f1 f2 f3 f4 f5 f6 q0 q1 q2 q3 q4 q5 q6
    change bodyPost _ _ _ _ _ (put7 v3 (w.heap.size + 1 + 1) (mkR 3 0 v ⟨#[]⟩ none 0 0))
    generalize put7 v3 (w.heap.size + 1 + 1) (mkR 3 0 v ⟨#[]⟩ none 0 0) = W5 at *
    exact bodyPost_ret (v := .agg #[.int .i64 3, .int .i64 0, .bool false, .slice none 0 0, .int .u64 v, .string ⟨#[]⟩, .slice none 0 0]) (by simp [results, Tryz.results14, go_sem, y0, y1, y2, y3, y4, y5, y6]) rfl ⟨(mkR 3 0 v ⟨#[]⟩ none 0 0), rfl, TV.leaf (by omega) (by omega) (by omega) (by omega) vlo vhi (by decide), Own.nil _ _, rfl, hB5⟩

set_option maxRecDepth 100000 in
set_option maxHeartbeats 4000000 in
theorem compute_int_ok (w : World) (op : Int) (r r' : TR) (t t' : Tm) (h : TV w r t) (h' : TV w r' t') (ho : t.Ok) (ho' : t'.Ok) (hk : op ≠ 8) (hk1 : t.kind ≠ 3) (hk2 : t'.kind ≠ 3) (x y v : Int) (hx : t.intO = some x) (hy : t'.intO = some y) (hv : whO op x y = some v) :
    Calls Tryz.prog 14 #[.int .i64 op, .agg #[.int .i64 r.k, .int .i64 r.n, .bool r.g, .slice r.A r.ln r.lc, .int .u64 r.u, .string r.s, .slice r.B r.m r.d], .agg #[.int .i64 r'.k, .int .i64 r'.n, .bool r'.g, .slice r'.A r'.ln r'.lc, .int .u64 r'.u, .string r'.s, .slice r'.B r'.m r'.d]] w (MadeP w (intT v)) := by
  rw [h.kind] at hk1
  rw [h'.kind] at hk2
  have tx := intO_top h hx
  have ty := intO_top h' hy
  have I := (SmI.new h h').below ((Below.refl _ _).alloc (Nat.le_refl _) (.cells #[.int .i64 zeroR.k, .int .i64 zeroR.n, .bool zeroR.g, .slice zeroR.A zeroR.ln zeroR.lc, .int .u64 zeroR.u, .string zeroR.s, .slice zeroR.B zeroR.m zeroR.d] 28))
  have hz := Box7.new ((w.alloc (.cells #[.int .i64 r.k, .int .i64 r.n, .bool r.g, .slice r.A r.ln r.lc, .int .u64 r.u, .string r.s, .slice r.B r.m r.d] 28)).alloc (.cells #[.int .i64 r'.k, .int .i64 r'.n, .bool r'.g, .slice r'.A r'.ln r'.lc, .int .u64 r'.u, .string r'.s, .slice r'.B r'.m r'.d] 28)) zeroR
  simp only [World.size_alloc] at hz
  have hW : (((w.alloc (.cells #[.int .i64 r.k, .int .i64 r.n, .bool r.g, .slice r.A r.ln r.lc, .int .u64 r.u, .string r.s, .slice r.B r.m r.d] 28)).alloc (.cells #[.int .i64 r'.k, .int .i64 r'.n, .bool r'.g, .slice r'.A r'.ln r'.lc, .int .u64 r'.u, .string r'.s, .slice r'.B r'.m r'.d] 28)).alloc (.cells #[.int .i64 zeroR.k, .int .i64 zeroR.n, .bool zeroR.g, .slice zeroR.A zeroR.ln zeroR.lc, .int .u64 zeroR.u, .string zeroR.s, .slice zeroR.B zeroR.m zeroR.d] 28)).heap.size = w.heap.size + 1 + 1 + 1 := by simp
  have e8 : (op == 8) = false := beq_eq_false_iff_ne.2 hk
  have e3 : (r.k == 3) = false := beq_eq_false_iff_ne.2 hk1
  have e3' : (r'.k == 3) = false := beq_eq_false_iff_ne.2 hk2
  clear hk hk1 hk2
  go_enter Tryz.func14, Tryz.ntmps14
  go_upto_region 3 with fail
  generalize ((w.alloc (.cells #[.int .i64 r.k, .int .i64 r.n, .bool r.g, .slice r.A r.ln r.lc, .int .u64 r.u, .string r.s, .slice r.B r.m r.d] 28)).alloc (.cells #[.int .i64 r'.k, .int .i64 r'.n, .bool r'.g, .slice r'.A r'.ln r'.lc, .int .u64 r'.u, .string r'.s, .slice r'.B r'.m r'.d] 28)).alloc (.cells #[.int .i64 zeroR.k, .int .i64 zeroR.n, .bool zeroR.g, .slice zeroR.A zeroR.ln zeroR.lc, .int .u64 zeroR.u, .string zeroR.s, .slice zeroR.B zeroR.m zeroR.d] 28) = W at *
  have J := I.drew
  have K0 := Lib.hid (hz.below (Below.refl _ _).drew)
  have hWd : W.drew.heap.size = w.heap.size + 1 + 1 + 1 := hW
  have n1 : w.heap.size + 1 + 1 ≠ w.heap.size := by omega
  have n2 : w.heap.size + 1 + 1 ≠ w.heap.size + 1 := by omega
  clear I hz
  go_region_held3 (fun w' => (w'.cell? ⟨w.heap.size, 0, none⟩ = some (.int .i64 r.k) ∧ w'.cell? ⟨w.heap.size, 1, none⟩ = some (.int .i64 r.n) ∧ w'.cell? ⟨w.heap.size, 2, none⟩ = some (.bool r.g) ∧ w'.cell? ⟨w.heap.size, 3, none⟩ = some (.slice r.A r.ln r.lc) ∧ w'.cell? ⟨w.heap.size, 4, none⟩ = some (.int .u64 r.u) ∧ w'.cell? ⟨w.heap.size, 5, none⟩ = some (.string r.s) ∧ w'.cell? ⟨w.heap.size, 6, none⟩ = some (.slice r.B r.m r.d)) ∧ (w'.cell? ⟨w.heap.size + 1, 0, none⟩ = some (.int .i64 r'.k) ∧ w'.cell? ⟨w.heap.size + 1, 1, none⟩ = some (.int .i64 r'.n) ∧ w'.cell? ⟨w.heap.size + 1, 2, none⟩ = some (.bool r'.g) ∧ w'.cell? ⟨w.heap.size + 1, 3, none⟩ = some (.slice r'.A r'.ln r'.lc) ∧ w'.cell? ⟨w.heap.size + 1, 4, none⟩ = some (.int .u64 r'.u) ∧ w'.cell? ⟨w.heap.size + 1, 5, none⟩ = some (.string r'.s) ∧ w'.cell? ⟨w.heap.size + 1, 6, none⟩ = some (.slice r'.B r'.m r'.d)))
    (first | with_reducible exact ⟨⟨J.bx.at.c0, J.bx.at.c1, J.bx.at.c2, J.bx.at.c3, J.bx.at.c4, J.bx.at.c5, J.bx.at.c6⟩, J.ix.at.c0, J.ix.at.c1, J.ix.at.c2, J.ix.at.c3, J.ix.at.c4, J.ix.at.c5, J.ix.at.c6⟩ | with_reducible exact ⟨⟨J1.bx.at.c0, J1.bx.at.c1, J1.bx.at.c2, J1.bx.at.c3, J1.bx.at.c4, J1.bx.at.c5, J1.bx.at.c6⟩, J1.ix.at.c0, J1.ix.at.c1, J1.ix.at.c2, J1.ix.at.c3, J1.ix.at.c4, J1.ix.at.c5, J1.ix.at.c6⟩ | with_reducible exact ⟨⟨J2.bx.at.c0, J2.bx.at.c1, J2.bx.at.c2, J2.bx.at.c3, J2.bx.at.c4, J2.bx.at.c5, J2.bx.at.c6⟩, J2.ix.at.c0, J2.ix.at.c1, J2.ix.at.c2, J2.ix.at.c3, J2.ix.at.c4, J2.ix.at.c5, J2.ix.at.c6⟩ | with_reducible exact ⟨⟨J3.bx.at.c0, J3.bx.at.c1, J3.bx.at.c2, J3.bx.at.c3, J3.bx.at.c4, J3.bx.at.c5, J3.bx.at.c6⟩, J3.ix.at.c0, J3.ix.at.c1, J3.ix.at.c2, J3.ix.at.c3, J3.ix.at.c4, J3.ix.at.c5, J3.ix.at.c6⟩ | exact ⟨⟨(J3.bx.put' n1 R).at.c0, (J3.bx.put' n1 R).at.c1, (J3.bx.put' n1 R).at.c2, (J3.bx.put' n1 R).at.c3, (J3.bx.put' n1 R).at.c4, (J3.bx.put' n1 R).at.c5, (J3.bx.put' n1 R).at.c6⟩, (J3.ix.put' n2 R).at.c0, (J3.ix.put' n2 R).at.c1, (J3.ix.put' n2 R).at.c2, (J3.ix.put' n2 R).at.c3, (J3.ix.put' n2 R).at.c4, (J3.ix.put' n2 R).at.c5, (J3.ix.put' n2 R).at.c6⟩)
    (first
      | (go_at_call 30; have Q := integer_some W.drew r t x J.tv ho hx; (with_reducible refine Q.mono ?_); clear Q; rintro e v1 ⟨s1, A1, n1', c1, rfl, ss1, O1, hv1⟩; have N1 := Nm.of_own ss1 O1; have J1 := J.below hv1; have K1 := Lib.hid (K0.out.below hv1); have hs1 := hv1.size; clear J K0 ss1 O1)
      | (go_at_call 30; have Q := integer_some v1 r' t' y J1.tw ho' hy; (with_reducible refine Q.mono ?_); clear Q; rintro e v2 ⟨s2, A2, n2', c2, rfl, ss2, O2, hv2⟩; have N2 := Nm.of_own ss2 O2; have M1 := N1.below hv2; have J2 := J1.below hv2; have K2 := Lib.hid (K1.out.below hv2); have hs2 := hv2.size; clear J1 K1 N1 ss2 O2)
      | (go_at_call 29; have Q := ofIntegers_some v2 op s1 s2 A1 A2 n1' c1 n2' c2 x y M1 N2 tx ty v hv; (with_reducible refine Q.mono ?_); clear Q; rintro e v3 ⟨R, rfl, hT, hO, hm0, hv3⟩; have TT := Lib.hid hT; have OO := Lib.hid hO; have MM := Lib.hid hm0; have J3 := J2.below hv3; have K3 := K2.out.below hv3; have hs3 := hv3.size; clear J2 K2 hT hO hm0; have f0 := K3.frozen 0; have f1 := K3.frozen 1; have f2 := K3.frozen 2; have f3 := K3.frozen 3; have f4 := K3.frozen 4; have f5 := K3.frozen 5; have f6 := K3.frozen 6; have q0 := K3.at.c0; have q1 := K3.at.c1; have q2 := K3.at.c2; have q3 := K3.at.c3; have q4 := K3.at.c4; have q5 := K3.at.c5; have q6 := K3.at.c6))
  go_wp2
  have tS := TVS.leafy (S := fun b => w.heap.size + 3 ≤ b) TT.out (fun _ a e => by have o := OO.out; rw [e] at o; have := (World.ownsRow.lt o.2.2 a.block rfl).1; omega) MM.out
  have hT5 := (tS.keep ((Keeps.refl _ v3).put7 (g := w.heap.size + 1 + 1) (by omega) R)).tv
  have hO5 := OO.out.put7 (g := w.heap.size + 1 + 1) (by omega) R
  have C := (K3.put R).at
  have hB5 := J3.be.put7 (g := w.heap.size + 1 + 1) (by omega) R
  have y0 := C.c0; have y1 := C.c1; have y2 := C.c2; have y3 := C.c3; have y4 := C.c4; have y5 := C.c5; have y6 := C.c6
  clear C f0 f1 f2 f3 f4 f5 f6 q0 q1 q2 q3 q4 q5 q6
  clear TT OO tS
  change bodyPost _ _ _ _ _ (put7 v3 (w.heap.size + 1 + 1) R)
  generalize put7 v3 (w.heap.size + 1 + 1) R = W5 at *
  exact bodyPost_ret (v := .agg #[.int .i64 R.k, .int .i64 R.n, .bool R.g, .slice R.A R.ln R.lc, .int .u64 R.u, .string R.s, .slice R.B R.m R.d]) (by simp [results, Tryz.results14, go_sem, y0, y1, y2, y3, y4, y5, y6]) rfl ⟨R, rfl, hT5, hO5.mono (by omega), MM.out, hB5⟩
end Go.Proofs.YtompimbeaeinbaaGreat
