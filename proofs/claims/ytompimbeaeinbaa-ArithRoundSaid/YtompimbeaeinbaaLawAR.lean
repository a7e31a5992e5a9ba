/-
  THE WALK OF ArithRound.
-/
import Derived.Test.YtompimbeaeinbaaArJ
import Derived.Test.YtompimbeaeinbaaLow
namespace Go.Proofs.Ytompimbeaeinbaa
open Go.RowKit

theorem wrap_k {k : Nat} {P : Int} (hk : k < 4) (hP : P = 5 + (k : Int)) : IntKind.i64.wrap (5 + (k : Int)) = P := by
  have : k = 0 ∨ k = 1 ∨ k = 2 ∨ k = 3 := by omega
  rcases this with rfl | rfl | rfl | rfl <;> subst hP <;> decide
theorem flt_keep {w w' : World} {R : TR} {u : Int} (T : TV w R (fltT u)) (hs : w.heap.size ≤ w'.heap.size) : TV w' R (fltT u) :=
  ((TVS.leafy (S := fun _ => False) T (fun h _ _ => by have := T.magLen; simp [fltT, Tm.mag] at this; omega) (by have := T.len; simp [fltT, Tm.args] at this; omega)).keep ⟨hs, fun _ h => h.elim⟩).tv
theorem one_cl : Cl 4607182418800017408 := ⟨by unfold U64; decide, fun h => absurd h (by decide)⟩

set_option maxRecDepth 100000 in
set_option maxHeartbeats 16000000 in
theorem arithRound_walk (w : World) (op n bits : Int) (n1 : -9223372036854775808 ≤ n) (n2 : n ≤ 9223372036854775807) (h0 : 0 ≤ bits) (h1 : bits ≤ 18446744073709551615) :
    Calls Try.prog 4 #[.int .i64 op, .int .i64 n, .int .u64 bits] w fun e w' => e = .returned (.bool true) ∧ Below w.heap.size w w' := by
  obtain ⟨k, hk, hlow⟩ := low_nat op 4 (by omega) (by omega)
  obtain ⟨P, hP⟩ : ∃ P, P = 5 + (k : Int) := ⟨_, rfl⟩
  have hw : IntKind.i64.wrap (5 + (k : Int)) = P := wrap_k hk hP
  have tn := top64 n1 n2
  obtain ⟨X, hX⟩ := flO_k hk (fR n) bits
  obtain ⟨U, hU⟩ := flO_k hk bits (fR n)
  rw [← hP] at hX hU
  clear hP
  have on := int_ok tn
  have o7 := int_ok (z := 7) (top64 (by omega) (by omega))
  have d0 : doO 7 (intT n) (fltT 4607182418800017408) = some (fltT (fR n)) := doO_flt (.inr (.inr rfl)) (fltO_int tn) (fltO_flt (flt_may one_cl)) (by show some (opI .mul (fR n) 4607182418800017408) = _; rw [ed_mul1 (fR_cl n)])
  have d5 : doO 8 (intT n) (intT 7) = some (fltT (opI .quo (fR n) (fR 7))) := doO_flt (.inl rfl) (fltO_int tn) (fltO_int (top64 (by omega) (by omega))) rfl
  have d6 : doO 8 (fltT (fR n)) (intT 7) = some (fltT (opI .quo (fR n) (fR 7))) := doO_flt (.inl rfl) (fltO_flt (flt_may (fR_cl n))) (fltO_int (top64 (by omega) (by omega))) rfl
  have fl := fR_cl n
  have D0 := Lib.hid d0
  have D5 := Lib.hid d5
  have D6 := Lib.hid d6
  have HX := Lib.hid hX
  have HU := Lib.hid hU
  have FL := Lib.hid fl
  clear d0 d5 d6 hX hU fl
  generalize opI .quo (fR n) (fR 7) = Z at *
  generalize hF : fR n = F at *
  have HF := Lib.hid hF
  clear hF
  go_enter Try.func4, Try.ntmps4
  go_wp2_with fail
  refine (hlow w).mono ?_
  rintro e v ⟨rfl, rfl⟩
  go_wp2_with fail
  refine (int_any w n n1 n2).mono ?_
  rintro e w1 ⟨Ra, rfl, T1, bb⟩
  have al := (Below.refl w1.heap.size w1).alloc (Nat.le_refl _) (.cells #[.int .i64 Ra.k, .int .i64 Ra.n, .bool Ra.g, .slice Ra.A Ra.ln Ra.lc, .int .u64 Ra.u, .string Ra.s, .slice Ra.B Ra.m Ra.d] 28)
  have Va := Vt.new T1
  have bb' := bb.trans (al.mono bb.size)
  clear bb
  have bb := bb'
  clear bb'
  clear al
  go_upto_region 3 with fail
  generalize w1.alloc (.cells #[.int .i64 Ra.k, .int .i64 Ra.n, .bool Ra.g, .slice Ra.A Ra.ln Ra.lc, .int .u64 Ra.u, .string Ra.s, .slice Ra.B Ra.m Ra.d] 28) = W1 at *
  clear T1
  have Tb := flt_tv (w := W1) h0 h1
  have al := (Below.refl W1.heap.size W1).alloc (Nat.le_refl _) (.cells #[.int .i64 (mkR 3 0 bits ⟨#[]⟩ none 0 0).k, .int .i64 (mkR 3 0 bits ⟨#[]⟩ none 0 0).n, .bool (mkR 3 0 bits ⟨#[]⟩ none 0 0).g, .slice (mkR 3 0 bits ⟨#[]⟩ none 0 0).A (mkR 3 0 bits ⟨#[]⟩ none 0 0).ln (mkR 3 0 bits ⟨#[]⟩ none 0 0).lc, .int .u64 (mkR 3 0 bits ⟨#[]⟩ none 0 0).u, .string (mkR 3 0 bits ⟨#[]⟩ none 0 0).s, .slice (mkR 3 0 bits ⟨#[]⟩ none 0 0).B (mkR 3 0 bits ⟨#[]⟩ none 0 0).m (mkR 3 0 bits ⟨#[]⟩ none 0 0).d] 28)
  have Vb := Vt.new Tb
  have Va' := Va.below al
  clear Va
  have Va := Va'
  clear Va'
  have bb' := bb.trans (al.mono bb.size)
  clear bb
  have bb := bb'
  clear bb'
  clear al
  go_upto_region 4 with fail
  change Code.wp _ _ _ _ (W1.alloc (.cells #[.int .i64 (mkR 3 0 bits ⟨#[]⟩ none 0 0).k, .int .i64 (mkR 3 0 bits ⟨#[]⟩ none 0 0).n, .bool (mkR 3 0 bits ⟨#[]⟩ none 0 0).g, .slice (mkR 3 0 bits ⟨#[]⟩ none 0 0).A (mkR 3 0 bits ⟨#[]⟩ none 0 0).ln (mkR 3 0 bits ⟨#[]⟩ none 0 0).lc, .int .u64 (mkR 3 0 bits ⟨#[]⟩ none 0 0).u, .string (mkR 3 0 bits ⟨#[]⟩ none 0 0).s, .slice (mkR 3 0 bits ⟨#[]⟩ none 0 0).B (mkR 3 0 bits ⟨#[]⟩ none 0 0).m (mkR 3 0 bits ⟨#[]⟩ none 0 0).d] 28))
  generalize W1.alloc (.cells #[.int .i64 (mkR 3 0 bits ⟨#[]⟩ none 0 0).k, .int .i64 (mkR 3 0 bits ⟨#[]⟩ none 0 0).n, .bool (mkR 3 0 bits ⟨#[]⟩ none 0 0).g, .slice (mkR 3 0 bits ⟨#[]⟩ none 0 0).A (mkR 3 0 bits ⟨#[]⟩ none 0 0).ln (mkR 3 0 bits ⟨#[]⟩ none 0 0).lc, .int .u64 (mkR 3 0 bits ⟨#[]⟩ none 0 0).u, .string (mkR 3 0 bits ⟨#[]⟩ none 0 0).s, .slice (mkR 3 0 bits ⟨#[]⟩ none 0 0).B (mkR 3 0 bits ⟨#[]⟩ none 0 0).m (mkR 3 0 bits ⟨#[]⟩ none 0 0).d] 28) = W2 at *
  clear Tb
  have y0 := Vb.bx.at.c0; have y1 := Vb.bx.at.c1; have y2 := Vb.bx.at.c2; have y3 := Vb.bx.at.c3; have y4 := Vb.bx.at.c4; have y5 := Vb.bx.at.c5; have y6 := Vb.bx.at.c6
  go_wp2_with fail
  refine (mayTerm_any W2 (mkR 3 0 bits ⟨#[]⟩ none 0 0) (fltT bits) Vb.tv (flt_ok bits)).mono ?_
  cases hm : (fltT bits).mayB with
  | false =>
    rintro e w2 ⟨rfl, hb2⟩
    go_wp2_with fail
    refine (awake6 w2).mono ?_
    rintro e w3 ⟨rfl, hb3⟩
    go_wp2
    go_ret
    exact ⟨rfl, (bb.trans (hb2.mono bb.size)).trans (hb3.mono (Nat.le_trans bb.size hb2.size))⟩
  | true =>
    rintro e w2 ⟨rfl, hb2⟩
    have Va' := Va.below hb2
    clear Va
    have Va := Va'
    clear Va'
    have Vb' := Vb.below hb2
    clear Vb
    have Vb := Vb'
    clear Vb'
    have bb' := bb.trans (hb2.mono bb.size)
    clear bb
    have bb := bb'
    clear bb'
    clear hb2 y0 y1 y2 y3 y4 y5 y6
    have FI := fltO_int tn
    rw [HF.out] at FI
    have D1 := Lib.hid (show doO P (intT n) (fltT bits) = some (fltT X) from doO_flt (.inr (.inr rfl)) FI (fltO_flt hm) HX.out)
    have D2 := Lib.hid (show doO P (fltT F) (fltT bits) = some (fltT X) from doO_flt (.inr (.inl rfl)) (fltO_flt (flt_may FL.out)) (fltO_flt hm) HX.out)
    have D3 := Lib.hid (show doO P (fltT bits) (intT n) = some (fltT U) from doO_flt (.inr (.inl rfl)) (fltO_flt hm) FI HU.out)
    have D4 := Lib.hid (show doO P (fltT bits) (fltT F) = some (fltT U) from doO_flt (.inr (.inl rfl)) (fltO_flt hm) (fltO_flt (flt_may FL.out)) HU.out)
    clear FI hm HX HU
    have To := flt_tv (w := w2) (u := 4607182418800017408) (by omega) (by omega)
    have al := (Below.refl w2.heap.size w2).alloc (Nat.le_refl _) (.cells #[.int .i64 (mkR 3 0 4607182418800017408 ⟨#[]⟩ none 0 0).k, .int .i64 (mkR 3 0 4607182418800017408 ⟨#[]⟩ none 0 0).n, .bool (mkR 3 0 4607182418800017408 ⟨#[]⟩ none 0 0).g, .slice (mkR 3 0 4607182418800017408 ⟨#[]⟩ none 0 0).A (mkR 3 0 4607182418800017408 ⟨#[]⟩ none 0 0).ln (mkR 3 0 4607182418800017408 ⟨#[]⟩ none 0 0).lc, .int .u64 (mkR 3 0 4607182418800017408 ⟨#[]⟩ none 0 0).u, .string (mkR 3 0 4607182418800017408 ⟨#[]⟩ none 0 0).s, .slice (mkR 3 0 4607182418800017408 ⟨#[]⟩ none 0 0).B (mkR 3 0 4607182418800017408 ⟨#[]⟩ none 0 0).m (mkR 3 0 4607182418800017408 ⟨#[]⟩ none 0 0).d] 28)
    have Vo := Vt.new To
    have Va' := Va.below al
    clear Va
    have Va := Va'
    clear Va'
    have Vb' := Vb.below al
    clear Vb
    have Vb := Vb'
    clear Vb'
    have bb' := bb.trans (al.mono bb.size)
    clear bb
    have bb := bb'
    clear bb'
    clear al
    go_upto_region 7 with fail
    change Code.wp _ _ _ _ (w2.alloc (.cells #[.int .i64 (mkR 3 0 4607182418800017408 ⟨#[]⟩ none 0 0).k, .int .i64 (mkR 3 0 4607182418800017408 ⟨#[]⟩ none 0 0).n, .bool (mkR 3 0 4607182418800017408 ⟨#[]⟩ none 0 0).g, .slice (mkR 3 0 4607182418800017408 ⟨#[]⟩ none 0 0).A (mkR 3 0 4607182418800017408 ⟨#[]⟩ none 0 0).ln (mkR 3 0 4607182418800017408 ⟨#[]⟩ none 0 0).lc, .int .u64 (mkR 3 0 4607182418800017408 ⟨#[]⟩ none 0 0).u, .string (mkR 3 0 4607182418800017408 ⟨#[]⟩ none 0 0).s, .slice (mkR 3 0 4607182418800017408 ⟨#[]⟩ none 0 0).B (mkR 3 0 4607182418800017408 ⟨#[]⟩ none 0 0).m (mkR 3 0 4607182418800017408 ⟨#[]⟩ none 0 0).d] 28))
    generalize w2.alloc (.cells #[.int .i64 (mkR 3 0 4607182418800017408 ⟨#[]⟩ none 0 0).k, .int .i64 (mkR 3 0 4607182418800017408 ⟨#[]⟩ none 0 0).n, .bool (mkR 3 0 4607182418800017408 ⟨#[]⟩ none 0 0).g, .slice (mkR 3 0 4607182418800017408 ⟨#[]⟩ none 0 0).A (mkR 3 0 4607182418800017408 ⟨#[]⟩ none 0 0).ln (mkR 3 0 4607182418800017408 ⟨#[]⟩ none 0 0).lc, .int .u64 (mkR 3 0 4607182418800017408 ⟨#[]⟩ none 0 0).u, .string (mkR 3 0 4607182418800017408 ⟨#[]⟩ none 0 0).s, .slice (mkR 3 0 4607182418800017408 ⟨#[]⟩ none 0 0).B (mkR 3 0 4607182418800017408 ⟨#[]⟩ none 0 0).m (mkR 3 0 4607182418800017408 ⟨#[]⟩ none 0 0).d] 28) = W3 at *
    clear To
    have y0 := Va.bx.at.c0; have y1 := Va.bx.at.c1; have y2 := Va.bx.at.c2; have y3 := Va.bx.at.c3; have y4 := Va.bx.at.c4; have y5 := Va.bx.at.c5; have y6 := Va.bx.at.c6; have x0 := Vo.bx.at.c0; have x1 := Vo.bx.at.c1; have x2 := Vo.bx.at.c2; have x3 := Vo.bx.at.c3; have x4 := Vo.bx.at.c4; have x5 := Vo.bx.at.c5; have x6 := Vo.bx.at.c6
    go_wp2_with fail
    refine (do_yes W3 7 Ra (mkR 3 0 4607182418800017408 ⟨#[]⟩ none 0 0) (intT n) (fltT 4607182418800017408) Va.tv Vo.tv on (flt_ok _) (fltT F) D0.out).mono ?_
    rintro e v1 ⟨Rf, rfl, T, -, -, hb⟩
    have Va' := Va.below hb
    clear Va
    have Va := Va'
    clear Va'
    have Vb' := Vb.below hb
    clear Vb
    have Vb := Vb'
    clear Vb'
    have Vo' := Vo.below hb
    clear Vo
    have Vo := Vo'
    clear Vo'
    have bb' := bb.trans (hb.mono bb.size)
    clear bb
    have bb := bb'
    clear bb'
    clear hb y0 y1 y2 y3 y4 y5 y6 x0 x1 x2 x3 x4 x5 x6
    have al := (Below.refl v1.heap.size v1).alloc (Nat.le_refl _) (.cells #[.int .i64 Rf.k, .int .i64 Rf.n, .bool Rf.g, .slice Rf.A Rf.ln Rf.lc, .int .u64 Rf.u, .string Rf.s, .slice Rf.B Rf.m Rf.d] 28)
    have Vf := Vt.new T
    have Va' := Va.below al
    clear Va
    have Va := Va'
    clear Va'
    have Vb' := Vb.below al
    clear Vb
    have Vb := Vb'
    clear Vb'
    have Vo' := Vo.below al
    clear Vo
    have Vo := Vo'
    clear Vo'
    have bb' := bb.trans (al.mono bb.size)
    clear bb
    have bb := bb'
    clear bb'
    clear al
    go_upto_region 8 with fail
    generalize v1.alloc (.cells #[.int .i64 Rf.k, .int .i64 Rf.n, .bool Rf.g, .slice Rf.A Rf.ln Rf.lc, .int .u64 Rf.u, .string Rf.s, .slice Rf.B Rf.m Rf.d] 28) = Y1 at *
    clear T
    have hkf : (Rf.k == 3) = true := by rw [← Vf.tv.kind]; rfl
    have y0 := Va.bx.at.c0; have y1 := Va.bx.at.c1; have y2 := Va.bx.at.c2; have y3 := Va.bx.at.c3; have y4 := Va.bx.at.c4; have y5 := Va.bx.at.c5; have y6 := Va.bx.at.c6; have x0 := Vb.bx.at.c0; have x1 := Vb.bx.at.c1; have x2 := Vb.bx.at.c2; have x3 := Vb.bx.at.c3; have x4 := Vb.bx.at.c4; have x5 := Vb.bx.at.c5; have x6 := Vb.bx.at.c6
    go_wp2_with fail
    refine (do_yes Y1 P Ra (mkR 3 0 bits ⟨#[]⟩ none 0 0) (intT n) (fltT bits) Va.tv Vb.tv on (flt_ok bits) (fltT X) D1.out).mono ?_
    rintro e v2 ⟨Rx, rfl, T, -, -, hb⟩
    have Va' := Va.below hb
    clear Va
    have Va := Va'
    clear Va'
    have Vb' := Vb.below hb
    clear Vb
    have Vb := Vb'
    clear Vb'
    have Vo' := Vo.below hb
    clear Vo
    have Vo := Vo'
    clear Vo'
    have Vf' := Vf.below hb
    clear Vf
    have Vf := Vf'
    clear Vf'
    have bb' := bb.trans (hb.mono bb.size)
    clear bb
    have bb := bb'
    clear bb'
    clear hb y0 y1 y2 y3 y4 y5 y6 x0 x1 x2 x3 x4 x5 x6
    have al := (Below.refl v2.heap.size v2).alloc (Nat.le_refl _) (.cells #[.int .i64 Rx.k, .int .i64 Rx.n, .bool Rx.g, .slice Rx.A Rx.ln Rx.lc, .int .u64 Rx.u, .string Rx.s, .slice Rx.B Rx.m Rx.d] 28)
    have Vx := Vt.new T
    have Va' := Va.below al
    clear Va
    have Va := Va'
    clear Va'
    have Vb' := Vb.below al
    clear Vb
    have Vb := Vb'
    clear Vb'
    have Vo' := Vo.below al
    clear Vo
    have Vo := Vo'
    clear Vo'
    have Vf' := Vf.below al
    clear Vf
    have Vf := Vf'
    clear Vf'
    have bb' := bb.trans (al.mono bb.size)
    clear bb
    have bb := bb'
    clear bb'
    clear al
    go_upto_region 9 with fail
    generalize v2.alloc (.cells #[.int .i64 Rx.k, .int .i64 Rx.n, .bool Rx.g, .slice Rx.A Rx.ln Rx.lc, .int .u64 Rx.u, .string Rx.s, .slice Rx.B Rx.m Rx.d] 28) = Y2 at *
    clear T
    have y0 := Vf.bx.at.c0; have y1 := Vf.bx.at.c1; have y2 := Vf.bx.at.c2; have y3 := Vf.bx.at.c3; have y4 := Vf.bx.at.c4; have y5 := Vf.bx.at.c5; have y6 := Vf.bx.at.c6; have x0 := Vb.bx.at.c0; have x1 := Vb.bx.at.c1; have x2 := Vb.bx.at.c2; have x3 := Vb.bx.at.c3; have x4 := Vb.bx.at.c4; have x5 := Vb.bx.at.c5; have x6 := Vb.bx.at.c6
    go_wp2_with fail
    refine (do_yes Y2 P Rf (mkR 3 0 bits ⟨#[]⟩ none 0 0) (fltT F) (fltT bits) Vf.tv Vb.tv (flt_ok _) (flt_ok bits) (fltT X) D2.out).mono ?_
    rintro e v3 ⟨Ry, rfl, T, -, -, hb⟩
    have Va' := Va.below hb
    clear Va
    have Va := Va'
    clear Va'
    have Vb' := Vb.below hb
    clear Vb
    have Vb := Vb'
    clear Vb'
    have Vo' := Vo.below hb
    clear Vo
    have Vo := Vo'
    clear Vo'
    have Vf' := Vf.below hb
    clear Vf
    have Vf := Vf'
    clear Vf'
    have Vx' := Vx.below hb
    clear Vx
    have Vx := Vx'
    clear Vx'
    have bb' := bb.trans (hb.mono bb.size)
    clear bb
    have bb := bb'
    clear bb'
    clear hb y0 y1 y2 y3 y4 y5 y6 x0 x1 x2 x3 x4 x5 x6
    have al := (Below.refl v3.heap.size v3).alloc (Nat.le_refl _) (.cells #[.int .i64 Ry.k, .int .i64 Ry.n, .bool Ry.g, .slice Ry.A Ry.ln Ry.lc, .int .u64 Ry.u, .string Ry.s, .slice Ry.B Ry.m Ry.d] 28)
    have Vy := Vt.new T
    have Va' := Va.below al
    clear Va
    have Va := Va'
    clear Va'
    have Vb' := Vb.below al
    clear Vb
    have Vb := Vb'
    clear Vb'
    have Vo' := Vo.below al
    clear Vo
    have Vo := Vo'
    clear Vo'
    have Vf' := Vf.below al
    clear Vf
    have Vf := Vf'
    clear Vf'
    have Vx' := Vx.below al
    clear Vx
    have Vx := Vx'
    clear Vx'
    have bb' := bb.trans (al.mono bb.size)
    clear bb
    have bb := bb'
    clear bb'
    clear al
    go_upto_region 10 with fail
    generalize v3.alloc (.cells #[.int .i64 Ry.k, .int .i64 Ry.n, .bool Ry.g, .slice Ry.A Ry.ln Ry.lc, .int .u64 Ry.u, .string Ry.s, .slice Ry.B Ry.m Ry.d] 28) = Y3 at *
    clear T
    have y0 := Vb.bx.at.c0; have y1 := Vb.bx.at.c1; have y2 := Vb.bx.at.c2; have y3 := Vb.bx.at.c3; have y4 := Vb.bx.at.c4; have y5 := Vb.bx.at.c5; have y6 := Vb.bx.at.c6; have x0 := Va.bx.at.c0; have x1 := Va.bx.at.c1; have x2 := Va.bx.at.c2; have x3 := Va.bx.at.c3; have x4 := Va.bx.at.c4; have x5 := Va.bx.at.c5; have x6 := Va.bx.at.c6
    go_wp2_with fail
    refine (do_yes Y3 P (mkR 3 0 bits ⟨#[]⟩ none 0 0) Ra (fltT bits) (intT n) Vb.tv Va.tv (flt_ok bits) on (fltT U) D3.out).mono ?_
    rintro e v4 ⟨Ru, rfl, T, -, -, hb⟩
    have Va' := Va.below hb
    clear Va
    have Va := Va'
    clear Va'
    have Vb' := Vb.below hb
    clear Vb
    have Vb := Vb'
    clear Vb'
    have Vo' := Vo.below hb
    clear Vo
    have Vo := Vo'
    clear Vo'
    have Vf' := Vf.below hb
    clear Vf
    have Vf := Vf'
    clear Vf'
    have Vx' := Vx.below hb
    clear Vx
    have Vx := Vx'
    clear Vx'
    have Vy' := Vy.below hb
    clear Vy
    have Vy := Vy'
    clear Vy'
    have bb' := bb.trans (hb.mono bb.size)
    clear bb
    have bb := bb'
    clear bb'
    clear hb y0 y1 y2 y3 y4 y5 y6 x0 x1 x2 x3 x4 x5 x6
    have al := (Below.refl v4.heap.size v4).alloc (Nat.le_refl _) (.cells #[.int .i64 Ru.k, .int .i64 Ru.n, .bool Ru.g, .slice Ru.A Ru.ln Ru.lc, .int .u64 Ru.u, .string Ru.s, .slice Ru.B Ru.m Ru.d] 28)
    have Vu := Vt.new T
    have Va' := Va.below al
    clear Va
    have Va := Va'
    clear Va'
    have Vb' := Vb.below al
    clear Vb
    have Vb := Vb'
    clear Vb'
    have Vo' := Vo.below al
    clear Vo
    have Vo := Vo'
    clear Vo'
    have Vf' := Vf.below al
    clear Vf
    have Vf := Vf'
    clear Vf'
    have Vx' := Vx.below al
    clear Vx
    have Vx := Vx'
    clear Vx'
    have Vy' := Vy.below al
    clear Vy
    have Vy := Vy'
    clear Vy'
    have bb' := bb.trans (al.mono bb.size)
    clear bb
    have bb := bb'
    clear bb'
    clear al
    go_upto_region 11 with fail
    generalize v4.alloc (.cells #[.int .i64 Ru.k, .int .i64 Ru.n, .bool Ru.g, .slice Ru.A Ru.ln Ru.lc, .int .u64 Ru.u, .string Ru.s, .slice Ru.B Ru.m Ru.d] 28) = Y4 at *
    clear T
    have y0 := Vb.bx.at.c0; have y1 := Vb.bx.at.c1; have y2 := Vb.bx.at.c2; have y3 := Vb.bx.at.c3; have y4 := Vb.bx.at.c4; have y5 := Vb.bx.at.c5; have y6 := Vb.bx.at.c6; have x0 := Vf.bx.at.c0; have x1 := Vf.bx.at.c1; have x2 := Vf.bx.at.c2; have x3 := Vf.bx.at.c3; have x4 := Vf.bx.at.c4; have x5 := Vf.bx.at.c5; have x6 := Vf.bx.at.c6
    go_wp2_with fail
    refine (do_yes Y4 P (mkR 3 0 bits ⟨#[]⟩ none 0 0) Rf (fltT bits) (fltT F) Vb.tv Vf.tv (flt_ok bits) (flt_ok _) (fltT U) D4.out).mono ?_
    rintro e v5 ⟨Rv, rfl, T, -, -, hb⟩
    have Va' := Va.below hb
    clear Va
    have Va := Va'
    clear Va'
    have Vb' := Vb.below hb
    clear Vb
    have Vb := Vb'
    clear Vb'
    have Vo' := Vo.below hb
    clear Vo
    have Vo := Vo'
    clear Vo'
    have Vf' := Vf.below hb
    clear Vf
    have Vf := Vf'
    clear Vf'
    have Vx' := Vx.below hb
    clear Vx
    have Vx := Vx'
    clear Vx'
    have Vy' := Vy.below hb
    clear Vy
    have Vy := Vy'
    clear Vy'
    have Vu' := Vu.below hb
    clear Vu
    have Vu := Vu'
    clear Vu'
    have bb' := bb.trans (hb.mono bb.size)
    clear bb
    have bb := bb'
    clear bb'
    clear hb y0 y1 y2 y3 y4 y5 y6 x0 x1 x2 x3 x4 x5 x6
    have al := (Below.refl v5.heap.size v5).alloc (Nat.le_refl _) (.cells #[.int .i64 Rv.k, .int .i64 Rv.n, .bool Rv.g, .slice Rv.A Rv.ln Rv.lc, .int .u64 Rv.u, .string Rv.s, .slice Rv.B Rv.m Rv.d] 28)
    have Vv := Vt.new T
    have Va' := Va.below al
    clear Va
    have Va := Va'
    clear Va'
    have Vb' := Vb.below al
    clear Vb
    have Vb := Vb'
    clear Vb'
    have Vo' := Vo.below al
    clear Vo
    have Vo := Vo'
    clear Vo'
    have Vf' := Vf.below al
    clear Vf
    have Vf := Vf'
    clear Vf'
    have Vx' := Vx.below al
    clear Vx
    have Vx := Vx'
    clear Vx'
    have Vy' := Vy.below al
    clear Vy
    have Vy := Vy'
    clear Vy'
    have Vu' := Vu.below al
    clear Vu
    have Vu := Vu'
    clear Vu'
    have bb' := bb.trans (al.mono bb.size)
    clear bb
    have bb := bb'
    clear bb'
    clear al
    go_upto_region 12 with fail
    generalize v5.alloc (.cells #[.int .i64 Rv.k, .int .i64 Rv.n, .bool Rv.g, .slice Rv.A Rv.ln Rv.lc, .int .u64 Rv.u, .string Rv.s, .slice Rv.B Rv.m Rv.d] 28) = Y5 at *
    clear T
    go_cut [20, 21] (fun p i wx => ∃ (g : Nat) (R : TR), p = .pointer (some ⟨g, 0, none⟩) ∧ i = .int .i64 (-1) ∧ Vt wx g R (fltT Z) ∧ Below Y5.heap.size Y5 wx)
    case first =>
      have J0 := Va.below (Below.refl Y5.heap.size Y5).drew
      have JA := (Va.below ((Below.refl Y5.heap.size Y5).alloc (Nat.le_refl _) (.cells #[.int .i64 0, .int .i64 0, .bool false, .slice none 0 0, .int .u64 0, .string ⟨#[]⟩, .slice none 0 0] 28))).below (Below.refl _ _).drew
      have hl0 : w1.heap.size < Y5.heap.size := J0.bx.lt
      have ne0 : w1.heap.size ≠ Y5.heap.size := Nat.ne_of_lt hl0
      have ne0' : Y5.heap.size ≠ w1.heap.size := Ne.symm ne0
      go_region_held3 (fun w' => w'.cell? ⟨w1.heap.size, 0, none⟩ = some (.int .i64 Ra.k) ∧ w'.cell? ⟨w1.heap.size, 1, none⟩ = some (.int .i64 Ra.n) ∧ w'.cell? ⟨w1.heap.size, 2, none⟩ = some (.bool Ra.g) ∧ w'.cell? ⟨w1.heap.size, 3, none⟩ = some (.slice Ra.A Ra.ln Ra.lc) ∧ w'.cell? ⟨w1.heap.size, 4, none⟩ = some (.int .u64 Ra.u) ∧ w'.cell? ⟨w1.heap.size, 5, none⟩ = some (.string Ra.s) ∧ w'.cell? ⟨w1.heap.size, 6, none⟩ = some (.slice Ra.B Ra.m Ra.d))
        (first | with_reducible exact ⟨J0.bx.at.c0, J0.bx.at.c1, J0.bx.at.c2, J0.bx.at.c3, J0.bx.at.c4, J0.bx.at.c5, J0.bx.at.c6⟩ | with_reducible exact ⟨J1.bx.at.c0, J1.bx.at.c1, J1.bx.at.c2, J1.bx.at.c3, J1.bx.at.c4, J1.bx.at.c5, J1.bx.at.c6⟩ | with_reducible exact ⟨J2.bx.at.c0, J2.bx.at.c1, J2.bx.at.c2, J2.bx.at.c3, J2.bx.at.c4, J2.bx.at.c5, J2.bx.at.c6⟩ | with_reducible exact ⟨JA.bx.at.c0, JA.bx.at.c1, JA.bx.at.c2, JA.bx.at.c3, JA.bx.at.c4, JA.bx.at.c5, JA.bx.at.c6⟩ | with_reducible exact ⟨(J1.below ((Below.refl _ _).alloc (Nat.le_refl _) _)).bx.at.c0, (J1.below ((Below.refl _ _).alloc (Nat.le_refl _) _)).bx.at.c1, (J1.below ((Below.refl _ _).alloc (Nat.le_refl _) _)).bx.at.c2, (J1.below ((Below.refl _ _).alloc (Nat.le_refl _) _)).bx.at.c3, (J1.below ((Below.refl _ _).alloc (Nat.le_refl _) _)).bx.at.c4, (J1.below ((Below.refl _ _).alloc (Nat.le_refl _) _)).bx.at.c5, (J1.below ((Below.refl _ _).alloc (Nat.le_refl _) _)).bx.at.c6⟩ | with_reducible exact ⟨(J2.below ((Below.refl _ _).alloc (Nat.le_refl _) _)).bx.at.c0, (J2.below ((Below.refl _ _).alloc (Nat.le_refl _) _)).bx.at.c1, (J2.below ((Below.refl _ _).alloc (Nat.le_refl _) _)).bx.at.c2, (J2.below ((Below.refl _ _).alloc (Nat.le_refl _) _)).bx.at.c3, (J2.below ((Below.refl _ _).alloc (Nat.le_refl _) _)).bx.at.c4, (J2.below ((Below.refl _ _).alloc (Nat.le_refl _) _)).bx.at.c5, (J2.below ((Below.refl _ _).alloc (Nat.le_refl _) _)).bx.at.c6⟩ | with_reducible exact ⟨(J2.bx.put' ne1' Rp).at.c0, (J2.bx.put' ne1' Rp).at.c1, (J2.bx.put' ne1' Rp).at.c2, (J2.bx.put' ne1' Rp).at.c3, (J2.bx.put' ne1' Rp).at.c4, (J2.bx.put' ne1' Rp).at.c5, (J2.bx.put' ne1' Rp).at.c6⟩ | with_reducible exact ⟨(J2.bx.put' ne0' Rp).at.c0, (J2.bx.put' ne0' Rp).at.c1, (J2.bx.put' ne0' Rp).at.c2, (J2.bx.put' ne0' Rp).at.c3, (J2.bx.put' ne0' Rp).at.c4, (J2.bx.put' ne0' Rp).at.c5, (J2.bx.put' ne0' Rp).at.c6⟩)
        (first
        | (go_at_call 10; have Q := int_any Y5.drew 7 (by omega) (by omega); (with_reducible refine Q.mono ?_); clear Q; rintro e u1 ⟨R7, rfl, T7, hb⟩; have J1 := J0.below hb; have BB := Lib.hid (Below.trans (Below.refl Y5.heap.size Y5).drew (hb.mono (Nat.le_refl _))); clear hb J0 JA; have hl1 := J1.bx.lt; have ne1 := Nat.ne_of_lt hl1; have ne1' := Ne.symm ne1; have hz1 := BB.out.size)
        | (go_at_call 10; have Q := int_any ((Y5.alloc (.cells #[.int .i64 0, .int .i64 0, .bool false, .slice none 0 0, .int .u64 0, .string ⟨#[]⟩, .slice none 0 0] 28)).drew) 7 (by omega) (by omega); (with_reducible refine Q.mono ?_); clear Q; rintro e u1 ⟨R7, rfl, T7, hb⟩; have J1 := JA.below hb; have BB := Lib.hid (Below.trans (((Below.refl Y5.heap.size Y5).alloc (Nat.le_refl _) (.cells #[.int .i64 0, .int .i64 0, .bool false, .slice none 0 0, .int .u64 0, .string ⟨#[]⟩, .slice none 0 0] 28)).drew) (hb.mono (by simp))); have K1 : Box7 u1 Y5.heap.size zeroR := ((Box7.new Y5 zeroR).below (Below.refl _ _).drew).below hb; clear hb J0 JA; have hl1 := J1.bx.lt; have ne1 := Nat.ne_of_lt hl1; have ne1' := Ne.symm ne1; have hz1 := BB.out.size)
        | (go_at_call 8; have Q := do_yes u1 8 Ra R7 (intT n) (intT 7) J1.tv T7 on o7 (fltT Z) D5.out; (with_reducible refine Q.mono ?_); clear Q; rintro e v6 ⟨Rp, rfl, T, -, -, hb⟩; have J2 := J1.below hb; have B2 := Below.trans BB.out (hb.mono hz1); (first | (have K2 := K1.below hb; have f0 := K2.frozen 0; have f1 := K2.frozen 1; have f2 := K2.frozen 2; have f3 := K2.frozen 3; have f4 := K2.frozen 4; have f5 := K2.frozen 5; have f6 := K2.frozen 6; have q0 := K2.at.c0; have q1 := K2.at.c1; have q2 := K2.at.c2; have q3 := K2.at.c3; have q4 := K2.at.c4; have q5 := K2.at.c5; have q6 := K2.at.c6) | skip); clear hb J1)
        | (go_at_call 8; have Q := do_yes (u1.alloc (.cells #[.int .i64 0, .int .i64 0, .bool false, .slice none 0 0, .int .u64 0, .string ⟨#[]⟩, .slice none 0 0] 28)) 8 Ra R7 (intT n) (intT 7) (J1.tv.bel ((Below.refl u1.heap.size u1).alloc (Nat.le_refl _) (.cells #[.int .i64 0, .int .i64 0, .bool false, .slice none 0 0, .int .u64 0, .string ⟨#[]⟩, .slice none 0 0] 28))) (T7.bel ((Below.refl u1.heap.size u1).alloc (Nat.le_refl _) (.cells #[.int .i64 0, .int .i64 0, .bool false, .slice none 0 0, .int .u64 0, .string ⟨#[]⟩, .slice none 0 0] 28))) on o7 (fltT Z) D5.out; (with_reducible refine Q.mono ?_); clear Q; rintro e v6 ⟨Rp, rfl, T, -, -, hb⟩; have J2 := (J1.below ((Below.refl u1.heap.size u1).alloc (Nat.le_refl _) (.cells #[.int .i64 0, .int .i64 0, .bool false, .slice none 0 0, .int .u64 0, .string ⟨#[]⟩, .slice none 0 0] 28))).below hb; have B2 := Below.trans (BB.out.alloc hz1 (.cells #[.int .i64 0, .int .i64 0, .bool false, .slice none 0 0, .int .u64 0, .string ⟨#[]⟩, .slice none 0 0] 28)) (hb.mono (by simp; omega)); have K2 : Box7 v6 u1.heap.size zeroR := (Box7.new u1 zeroR).below hb; have f0 := K2.frozen 0; have f1 := K2.frozen 1; have f2 := K2.frozen 2; have f3 := K2.frozen 3; have f4 := K2.frozen 4; have f5 := K2.frozen 5; have f6 := K2.frozen 6; have q0 := K2.at.c0; have q1 := K2.at.c1; have q2 := K2.at.c2; have q3 := K2.at.c3; have q4 := K2.at.c4; have q5 := K2.at.c5; have q6 := K2.at.c6; clear hb J1))
      all_goals
        go_wp2_with fail
        go_meet
        first
          | (with_reducible exact ⟨v6.heap.size, Rp, rfl, rfl, Vt.new T, B2.alloc B2.size _⟩)
          | (with_reducible exact ⟨u1.heap.size, Rp, rfl, rfl, ⟨K2.put Rp, flt_keep T (by rw [put7_size]; exact Nat.le_refl _)⟩, B2.put7 (by omega) Rp⟩)
          | (with_reducible exact ⟨Y5.heap.size, Rp, rfl, rfl, ⟨K2.put Rp, flt_keep T (by rw [put7_size]; exact Nat.le_refl _)⟩, B2.put7 (Nat.le_refl _) Rp⟩)
    obtain ⟨g6, Rp, rfl, rfl, Vp0, hb⟩ := hcut
    have Va' := Va.below hb
    clear Va
    have Va := Va'
    clear Va'
    have Vb' := Vb.below hb
    clear Vb
    have Vb := Vb'
    clear Vb'
    have Vo' := Vo.below hb
    clear Vo
    have Vo := Vo'
    clear Vo'
    have Vf' := Vf.below hb
    clear Vf
    have Vf := Vf'
    clear Vf'
    have Vx' := Vx.below hb
    clear Vx
    have Vx := Vx'
    clear Vx'
    have Vy' := Vy.below hb
    clear Vy
    have Vy := Vy'
    clear Vy'
    have Vu' := Vu.below hb
    clear Vu
    have Vu := Vu'
    clear Vu'
    have Vv' := Vv.below hb
    clear Vv
    have Vv := Vv'
    clear Vv'
    have bb' := bb.trans (hb.mono bb.size)
    clear bb
    have bb := bb'
    clear bb'
    clear hb
    have Vp := Vp0
    clear Vp0
    generalize wc = Y6 at *
    go_upto_region 13 with fail
    go_cut [22, 23] (fun p i wx => ∃ (g : Nat) (R : TR), p = .pointer (some ⟨g, 0, none⟩) ∧ i = .int .i64 (-1) ∧ Vt wx g R (fltT Z) ∧ Below Y6.heap.size Y6 wx)
    case first =>
      have J0 := Vf.below (Below.refl Y6.heap.size Y6).drew
      have JA := (Vf.below ((Below.refl Y6.heap.size Y6).alloc (Nat.le_refl _) (.cells #[.int .i64 0, .int .i64 0, .bool false, .slice none 0 0, .int .u64 0, .string ⟨#[]⟩, .slice none 0 0] 28))).below (Below.refl _ _).drew
      have hl0 : v1.heap.size < Y6.heap.size := J0.bx.lt
      have ne0 : v1.heap.size ≠ Y6.heap.size := Nat.ne_of_lt hl0
      have ne0' : Y6.heap.size ≠ v1.heap.size := Ne.symm ne0
      go_region_held3 (fun w' => w'.cell? ⟨v1.heap.size, 0, none⟩ = some (.int .i64 Rf.k) ∧ w'.cell? ⟨v1.heap.size, 1, none⟩ = some (.int .i64 Rf.n) ∧ w'.cell? ⟨v1.heap.size, 2, none⟩ = some (.bool Rf.g) ∧ w'.cell? ⟨v1.heap.size, 3, none⟩ = some (.slice Rf.A Rf.ln Rf.lc) ∧ w'.cell? ⟨v1.heap.size, 4, none⟩ = some (.int .u64 Rf.u) ∧ w'.cell? ⟨v1.heap.size, 5, none⟩ = some (.string Rf.s) ∧ w'.cell? ⟨v1.heap.size, 6, none⟩ = some (.slice Rf.B Rf.m Rf.d))
        (first | with_reducible exact ⟨J0.bx.at.c0, J0.bx.at.c1, J0.bx.at.c2, J0.bx.at.c3, J0.bx.at.c4, J0.bx.at.c5, J0.bx.at.c6⟩ | with_reducible exact ⟨J1.bx.at.c0, J1.bx.at.c1, J1.bx.at.c2, J1.bx.at.c3, J1.bx.at.c4, J1.bx.at.c5, J1.bx.at.c6⟩ | with_reducible exact ⟨J2.bx.at.c0, J2.bx.at.c1, J2.bx.at.c2, J2.bx.at.c3, J2.bx.at.c4, J2.bx.at.c5, J2.bx.at.c6⟩ | with_reducible exact ⟨JA.bx.at.c0, JA.bx.at.c1, JA.bx.at.c2, JA.bx.at.c3, JA.bx.at.c4, JA.bx.at.c5, JA.bx.at.c6⟩ | with_reducible exact ⟨(J1.below ((Below.refl _ _).alloc (Nat.le_refl _) _)).bx.at.c0, (J1.below ((Below.refl _ _).alloc (Nat.le_refl _) _)).bx.at.c1, (J1.below ((Below.refl _ _).alloc (Nat.le_refl _) _)).bx.at.c2, (J1.below ((Below.refl _ _).alloc (Nat.le_refl _) _)).bx.at.c3, (J1.below ((Below.refl _ _).alloc (Nat.le_refl _) _)).bx.at.c4, (J1.below ((Below.refl _ _).alloc (Nat.le_refl _) _)).bx.at.c5, (J1.below ((Below.refl _ _).alloc (Nat.le_refl _) _)).bx.at.c6⟩ | with_reducible exact ⟨(J2.below ((Below.refl _ _).alloc (Nat.le_refl _) _)).bx.at.c0, (J2.below ((Below.refl _ _).alloc (Nat.le_refl _) _)).bx.at.c1, (J2.below ((Below.refl _ _).alloc (Nat.le_refl _) _)).bx.at.c2, (J2.below ((Below.refl _ _).alloc (Nat.le_refl _) _)).bx.at.c3, (J2.below ((Below.refl _ _).alloc (Nat.le_refl _) _)).bx.at.c4, (J2.below ((Below.refl _ _).alloc (Nat.le_refl _) _)).bx.at.c5, (J2.below ((Below.refl _ _).alloc (Nat.le_refl _) _)).bx.at.c6⟩ | with_reducible exact ⟨(J2.bx.put' ne1' Rq).at.c0, (J2.bx.put' ne1' Rq).at.c1, (J2.bx.put' ne1' Rq).at.c2, (J2.bx.put' ne1' Rq).at.c3, (J2.bx.put' ne1' Rq).at.c4, (J2.bx.put' ne1' Rq).at.c5, (J2.bx.put' ne1' Rq).at.c6⟩ | with_reducible exact ⟨(J2.bx.put' ne0' Rq).at.c0, (J2.bx.put' ne0' Rq).at.c1, (J2.bx.put' ne0' Rq).at.c2, (J2.bx.put' ne0' Rq).at.c3, (J2.bx.put' ne0' Rq).at.c4, (J2.bx.put' ne0' Rq).at.c5, (J2.bx.put' ne0' Rq).at.c6⟩)
        (first
        | (go_at_call 10; have Q := int_any Y6.drew 7 (by omega) (by omega); (with_reducible refine Q.mono ?_); clear Q; rintro e u1 ⟨R7, rfl, T7, hb⟩; have J1 := J0.below hb; have BB := Lib.hid (Below.trans (Below.refl Y6.heap.size Y6).drew (hb.mono (Nat.le_refl _))); clear hb J0 JA; have hl1 := J1.bx.lt; have ne1 := Nat.ne_of_lt hl1; have ne1' := Ne.symm ne1; have hz1 := BB.out.size)
        | (go_at_call 10; have Q := int_any ((Y6.alloc (.cells #[.int .i64 0, .int .i64 0, .bool false, .slice none 0 0, .int .u64 0, .string ⟨#[]⟩, .slice none 0 0] 28)).drew) 7 (by omega) (by omega); (with_reducible refine Q.mono ?_); clear Q; rintro e u1 ⟨R7, rfl, T7, hb⟩; have J1 := JA.below hb; have BB := Lib.hid (Below.trans (((Below.refl Y6.heap.size Y6).alloc (Nat.le_refl _) (.cells #[.int .i64 0, .int .i64 0, .bool false, .slice none 0 0, .int .u64 0, .string ⟨#[]⟩, .slice none 0 0] 28)).drew) (hb.mono (by simp))); have K1 : Box7 u1 Y6.heap.size zeroR := ((Box7.new Y6 zeroR).below (Below.refl _ _).drew).below hb; clear hb J0 JA; have hl1 := J1.bx.lt; have ne1 := Nat.ne_of_lt hl1; have ne1' := Ne.symm ne1; have hz1 := BB.out.size)
        | (go_at_call 8; have Q := do_yes u1 8 Rf R7 (fltT F) (intT 7) J1.tv T7 (flt_ok _) o7 (fltT Z) D6.out; (with_reducible refine Q.mono ?_); clear Q; rintro e v7 ⟨Rq, rfl, T, -, -, hb⟩; have J2 := J1.below hb; have B2 := Below.trans BB.out (hb.mono hz1); (first | (have K2 := K1.below hb; have f0 := K2.frozen 0; have f1 := K2.frozen 1; have f2 := K2.frozen 2; have f3 := K2.frozen 3; have f4 := K2.frozen 4; have f5 := K2.frozen 5; have f6 := K2.frozen 6; have q0 := K2.at.c0; have q1 := K2.at.c1; have q2 := K2.at.c2; have q3 := K2.at.c3; have q4 := K2.at.c4; have q5 := K2.at.c5; have q6 := K2.at.c6) | skip); clear hb J1)
        | (go_at_call 8; have Q := do_yes (u1.alloc (.cells #[.int .i64 0, .int .i64 0, .bool false, .slice none 0 0, .int .u64 0, .string ⟨#[]⟩, .slice none 0 0] 28)) 8 Rf R7 (fltT F) (intT 7) (J1.tv.bel ((Below.refl u1.heap.size u1).alloc (Nat.le_refl _) (.cells #[.int .i64 0, .int .i64 0, .bool false, .slice none 0 0, .int .u64 0, .string ⟨#[]⟩, .slice none 0 0] 28))) (T7.bel ((Below.refl u1.heap.size u1).alloc (Nat.le_refl _) (.cells #[.int .i64 0, .int .i64 0, .bool false, .slice none 0 0, .int .u64 0, .string ⟨#[]⟩, .slice none 0 0] 28))) (flt_ok _) o7 (fltT Z) D6.out; (with_reducible refine Q.mono ?_); clear Q; rintro e v7 ⟨Rq, rfl, T, -, -, hb⟩; have J2 := (J1.below ((Below.refl u1.heap.size u1).alloc (Nat.le_refl _) (.cells #[.int .i64 0, .int .i64 0, .bool false, .slice none 0 0, .int .u64 0, .string ⟨#[]⟩, .slice none 0 0] 28))).below hb; have B2 := Below.trans (BB.out.alloc hz1 (.cells #[.int .i64 0, .int .i64 0, .bool false, .slice none 0 0, .int .u64 0, .string ⟨#[]⟩, .slice none 0 0] 28)) (hb.mono (by simp; omega)); have K2 : Box7 v7 u1.heap.size zeroR := (Box7.new u1 zeroR).below hb; have f0 := K2.frozen 0; have f1 := K2.frozen 1; have f2 := K2.frozen 2; have f3 := K2.frozen 3; have f4 := K2.frozen 4; have f5 := K2.frozen 5; have f6 := K2.frozen 6; have q0 := K2.at.c0; have q1 := K2.at.c1; have q2 := K2.at.c2; have q3 := K2.at.c3; have q4 := K2.at.c4; have q5 := K2.at.c5; have q6 := K2.at.c6; clear hb J1))
      all_goals
        go_wp2_with fail
        go_meet
        first
          | (with_reducible exact ⟨v7.heap.size, Rq, rfl, rfl, Vt.new T, B2.alloc B2.size _⟩)
          | (with_reducible exact ⟨u1.heap.size, Rq, rfl, rfl, ⟨K2.put Rq, flt_keep T (by rw [put7_size]; exact Nat.le_refl _)⟩, B2.put7 (by omega) Rq⟩)
          | (with_reducible exact ⟨Y6.heap.size, Rq, rfl, rfl, ⟨K2.put Rq, flt_keep T (by rw [put7_size]; exact Nat.le_refl _)⟩, B2.put7 (Nat.le_refl _) Rq⟩)
    obtain ⟨g7, Rq, rfl, rfl, Vq0, hb⟩ := hcut
    have Va' := Va.below hb
    clear Va
    have Va := Va'
    clear Va'
    have Vb' := Vb.below hb
    clear Vb
    have Vb := Vb'
    clear Vb'
    have Vo' := Vo.below hb
    clear Vo
    have Vo := Vo'
    clear Vo'
    have Vf' := Vf.below hb
    clear Vf
    have Vf := Vf'
    clear Vf'
    have Vx' := Vx.below hb
    clear Vx
    have Vx := Vx'
    clear Vx'
    have Vy' := Vy.below hb
    clear Vy
    have Vy := Vy'
    clear Vy'
    have Vu' := Vu.below hb
    clear Vu
    have Vu := Vu'
    clear Vu'
    have Vv' := Vv.below hb
    clear Vv
    have Vv := Vv'
    clear Vv'
    have Vp' := Vp.below hb
    clear Vp
    have Vp := Vp'
    clear Vp'
    have bb' := bb.trans (hb.mono bb.size)
    clear bb
    have bb := bb'
    clear bb'
    clear hb
    have Vq := Vq0
    clear Vq0
    generalize wc = Y7 at *
    go_upto_region 14 with fail
    have y0 := Vf.bx.at.c0
    have p0 := Vx.bx.at.c0; have p1 := Vx.bx.at.c1; have p2 := Vx.bx.at.c2; have p3 := Vx.bx.at.c3; have p4 := Vx.bx.at.c4; have p5 := Vx.bx.at.c5; have p6 := Vx.bx.at.c6; have q0 := Vy.bx.at.c0; have q1 := Vy.bx.at.c1; have q2 := Vy.bx.at.c2; have q3 := Vy.bx.at.c3; have q4 := Vy.bx.at.c4; have q5 := Vy.bx.at.c5; have q6 := Vy.bx.at.c6
    go_wp2_with fail
    refine (sameTerm_eq (fltT X) Y7 Rx Ry Vx.tv Vy.tv).mono ?_
    rintro e z1 ⟨rfl, hb⟩
    have Va' := Va.below hb
    clear Va
    have Va := Va'
    clear Va'
    have Vb' := Vb.below hb
    clear Vb
    have Vb := Vb'
    clear Vb'
    have Vo' := Vo.below hb
    clear Vo
    have Vo := Vo'
    clear Vo'
    have Vf' := Vf.below hb
    clear Vf
    have Vf := Vf'
    clear Vf'
    have Vx' := Vx.below hb
    clear Vx
    have Vx := Vx'
    clear Vx'
    have Vy' := Vy.below hb
    clear Vy
    have Vy := Vy'
    clear Vy'
    have Vu' := Vu.below hb
    clear Vu
    have Vu := Vu'
    clear Vu'
    have Vv' := Vv.below hb
    clear Vv
    have Vv := Vv'
    clear Vv'
    have Vp' := Vp.below hb
    clear Vp
    have Vp := Vp'
    clear Vp'
    have Vq' := Vq.below hb
    clear Vq
    have Vq := Vq'
    clear Vq'
    have bb' := bb.trans (hb.mono bb.size)
    clear bb
    have bb := bb'
    clear bb'
    clear hb y0 p0 p1 p2 p3 p4 p5 p6 q0 q1 q2 q3 q4 q5 q6
    have p0 := Vu.bx.at.c0; have p1 := Vu.bx.at.c1; have p2 := Vu.bx.at.c2; have p3 := Vu.bx.at.c3; have p4 := Vu.bx.at.c4; have p5 := Vu.bx.at.c5; have p6 := Vu.bx.at.c6; have q0 := Vv.bx.at.c0; have q1 := Vv.bx.at.c1; have q2 := Vv.bx.at.c2; have q3 := Vv.bx.at.c3; have q4 := Vv.bx.at.c4; have q5 := Vv.bx.at.c5; have q6 := Vv.bx.at.c6
    go_wp2_with fail
    refine (sameTerm_eq (fltT U) z1 Ru Rv Vu.tv Vv.tv).mono ?_
    rintro e z2 ⟨rfl, hb⟩
    have Va' := Va.below hb
    clear Va
    have Va := Va'
    clear Va'
    have Vb' := Vb.below hb
    clear Vb
    have Vb := Vb'
    clear Vb'
    have Vo' := Vo.below hb
    clear Vo
    have Vo := Vo'
    clear Vo'
    have Vf' := Vf.below hb
    clear Vf
    have Vf := Vf'
    clear Vf'
    have Vx' := Vx.below hb
    clear Vx
    have Vx := Vx'
    clear Vx'
    have Vy' := Vy.below hb
    clear Vy
    have Vy := Vy'
    clear Vy'
    have Vu' := Vu.below hb
    clear Vu
    have Vu := Vu'
    clear Vu'
    have Vv' := Vv.below hb
    clear Vv
    have Vv := Vv'
    clear Vv'
    have Vp' := Vp.below hb
    clear Vp
    have Vp := Vp'
    clear Vp'
    have Vq' := Vq.below hb
    clear Vq
    have Vq := Vq'
    clear Vq'
    have bb' := bb.trans (hb.mono bb.size)
    clear bb
    have bb := bb'
    clear bb'
    clear hb p0 p1 p2 p3 p4 p5 p6 q0 q1 q2 q3 q4 q5 q6
    have p0 := Vp.bx.at.c0; have p1 := Vp.bx.at.c1; have p2 := Vp.bx.at.c2; have p3 := Vp.bx.at.c3; have p4 := Vp.bx.at.c4; have p5 := Vp.bx.at.c5; have p6 := Vp.bx.at.c6; have q0 := Vq.bx.at.c0; have q1 := Vq.bx.at.c1; have q2 := Vq.bx.at.c2; have q3 := Vq.bx.at.c3; have q4 := Vq.bx.at.c4; have q5 := Vq.bx.at.c5; have q6 := Vq.bx.at.c6
    go_wp2_with fail
    refine (sameTerm_eq (fltT Z) z2 Rp Rq Vp.tv Vq.tv).mono ?_
    rintro e z3 ⟨rfl, hb⟩
    have Va' := Va.below hb
    clear Va
    have Va := Va'
    clear Va'
    have Vb' := Vb.below hb
    clear Vb
    have Vb := Vb'
    clear Vb'
    have Vo' := Vo.below hb
    clear Vo
    have Vo := Vo'
    clear Vo'
    have Vf' := Vf.below hb
    clear Vf
    have Vf := Vf'
    clear Vf'
    have Vx' := Vx.below hb
    clear Vx
    have Vx := Vx'
    clear Vx'
    have Vy' := Vy.below hb
    clear Vy
    have Vy := Vy'
    clear Vy'
    have Vu' := Vu.below hb
    clear Vu
    have Vu := Vu'
    clear Vu'
    have Vv' := Vv.below hb
    clear Vv
    have Vv := Vv'
    clear Vv'
    have Vp' := Vp.below hb
    clear Vp
    have Vp := Vp'
    clear Vp'
    have Vq' := Vq.below hb
    clear Vq
    have Vq := Vq'
    clear Vq'
    have bb' := bb.trans (hb.mono bb.size)
    clear bb
    have bb := bb'
    clear bb'
    clear hb p0 p1 p2 p3 p4 p5 p6 q0 q1 q2 q3 q4 q5 q6
    go_wp2_with fail
    refine (awake6 z3).mono ?_
    rintro e z4 ⟨rfl, hb⟩
    go_wp2
    go_ret
    exact ⟨rfl, bb.trans (hb.mono bb.size)⟩
end Go.Proofs.Ytompimbeaeinbaa
