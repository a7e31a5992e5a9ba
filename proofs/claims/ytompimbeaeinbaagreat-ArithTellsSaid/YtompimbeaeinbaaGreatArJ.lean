/-
  WHAT EVERY PROGRAM ANSWERS THAT IS ONE: awake of beehivelaw6.
-/
import Derived.Test.YtompimbeaeinbaaGreatArI
namespace Go.Proofs.YtompimbeaeinbaaGreat
open Go.RowKit

set_option maxRecDepth 100000 in
theorem aw_inf : doO 8 (intT 1) (intT 0) = some (fltT 9218868437227405312) := by
  refine doO_flt (.inl rfl) (fltO_int (top64 (by omega) (by omega))) (fltO_int (top64 (by omega) (by omega))) ?_
  rw [fR_one, fR_zero]
  show some (opI .quo 4607182418800017408 0) = _
  rw [show opI .quo 4607182418800017408 0 = 9218868437227405312 from by decide +kernel]
def tAt1 : Tm := .mk 4 1 false [] 0 ⟨#[]⟩ []
set_option maxRecDepth 100000 in
theorem tAt1_ok : tAt1.Ok := by simp [tAt1, Tm.Ok, Tm.Oks, ByteArray.size]
set_option maxRecDepth 100000 in
theorem aw_no : doO 5 (intT 1) tAt1 = none := by
  unfold doO
  rw [if_neg (fun h => h.elim (by decide) (fun h => h.elim (int_kind3 (top64 (by omega) (by omega))) (by decide))), intO_int (top64 (by omega) (by omega))]
  have : tAt1.intO = none := by
    unfold Tm.intO
    split
    · rfl
    · rfl
  simp only [Option.bind_some, this]
  rfl
set_option maxRecDepth 100000 in
theorem big_top : (1208925819614629174706176 : Int).natAbs < Lm.top := by
  have h : (1208925819614629174706176 : Nat) < Lm.top := by unfold Lm.top; decide
  exact h
set_option maxRecDepth 100000 in
theorem aw_big : doO 7 (intT 1099511627776) (intT 1099511627776) = some (intT 1208925819614629174706176) := by
  refine doO_int (by decide) (int_kind3 (top64 (by omega) (by omega))) (int_kind3 (top64 (by omega) (by omega))) (intO_int (top64 (by omega) (by omega))) (intO_int (top64 (by omega) (by omega))) ?_
  show ifFits (1099511627776 * 1099511627776) = _
  unfold ifFits
  rw [show ((1099511627776 : Int) * 1099511627776) = 1208925819614629174706176 from by decide, if_pos (show fits _ = true from decide_eq_true big_top)]
set_option maxRecDepth 100000 in
theorem aw_kind : (intT 1208925819614629174706176).kind = 2 := by rw [intT_big big_top (by decide)]; rfl

set_option maxRecDepth 100000 in
set_option maxRecDepth 100000 in
set_option maxHeartbeats 8000000 in
theorem awake6 (w : World) : Calls Tryz.prog 5 #[] w fun e w' => e = .returned (.bool true) ∧ Below w.heap.size w w' := by
  have o1 := int_ok (z := 1) (top64 (by omega) (by omega))
  have o0 := int_ok (z := 0) (top64 (by omega) (by omega))
  have o4 := int_ok (z := 1099511627776) (top64 (by omega) (by omega))
  go_enter Tryz.func5, Tryz.ntmps5
  go_wp2_with fail
  refine (int_any w 1 (by omega) (by omega)).mono ?_
  rintro e w1 ⟨R1, rfl, T1, hb1⟩
  go_wp2_with fail
  refine (int_any w1 0 (by omega) (by omega)).mono ?_
  rintro e w2 ⟨R2, rfl, T2, hb2⟩
  have T1' := T1.bel hb2
  have b2 := hb1.trans (hb2.mono hb1.size)
  go_wp2_with fail
  refine (do_yes w2 8 R1 R2 _ _ T1' T2 o1 o0 _ aw_inf).mono ?_
  rintro e w3 ⟨R3, rfl, T3, -, -, hb3⟩
  have b3 := b2.trans (hb3.mono b2.size)
  have A3 := (Below.refl w3.heap.size w3).alloc (Nat.le_refl _) (.cells #[.int .i64 R3.k, .int .i64 R3.n, .bool R3.g, .slice R3.A R3.ln R3.lc, .int .u64 R3.u, .string R3.s, .slice R3.B R3.m R3.d] 28)
  have V := Vt.new T3
  have b4 := b3.trans (A3.mono b3.size)
  clear T1 T1' T2 T3 hb1 hb2 hb3 b2 b3 A3
  go_upto_region 2 with fail
  generalize w3.alloc (.cells #[.int .i64 R3.k, .int .i64 R3.n, .bool R3.g, .slice R3.A R3.ln R3.lc, .int .u64 R3.u, .string R3.s, .slice R3.B R3.m R3.d] 28) = W at *
  go_wp2_with fail
  refine (int_any W 1 (by omega) (by omega)).mono ?_
  rintro e w1 ⟨R1, rfl, T1, hb1⟩
  go_wp2_with fail
  refine (atom_any w1 1 (by omega) (by omega)).mono ?_
  rintro e w2 ⟨R2, rfl, T2, hb2⟩
  have T1' := T1.bel hb2
  have b2 := hb1.trans (hb2.mono hb1.size)
  go_wp2_with fail
  refine (do_no w2 5 R1 R2 _ _ T1' T2 o1 tAt1_ok aw_no).mono ?_
  rintro e w4 ⟨rfl, hb3⟩
  have b3 := b2.trans (hb3.mono b2.size)
  have A3 := b3.alloc b3.size (.cells #[.int .i64 zeroR.k, .int .i64 zeroR.n, .bool zeroR.g, .slice zeroR.A zeroR.ln zeroR.lc, .int .u64 zeroR.u, .string zeroR.s, .slice zeroR.B zeroR.m zeroR.d] 28)
  have V2 := V.below A3
  have b5 := b4.trans (A3.mono b4.size)
  clear T1 T1' T2 hb1 hb2 hb3 b2 b3 A3 V b4
  go_upto_region 3 with fail
  generalize w4.alloc (.cells #[.int .i64 zeroR.k, .int .i64 zeroR.n, .bool zeroR.g, .slice zeroR.A zeroR.ln zeroR.lc, .int .u64 zeroR.u, .string zeroR.s, .slice zeroR.B zeroR.m zeroR.d] 28) = W2 at *
  go_wp2_with fail
  refine (int_any W2 1099511627776 (by omega) (by omega)).mono ?_
  rintro e w1 ⟨R1, rfl, T1, hb1⟩
  go_wp2_with fail
  refine (int_any w1 1099511627776 (by omega) (by omega)).mono ?_
  rintro e w2 ⟨R2, rfl, T2, hb2⟩
  have T1' := T1.bel hb2
  have b2 := hb1.trans (hb2.mono hb1.size)
  go_wp2_with fail
  refine (do_yes w2 7 R1 R2 _ _ T1' T2 o4 o4 _ aw_big).mono ?_
  rintro e w5 ⟨R5, rfl, T5, -, -, hb3⟩
  have b3 := b2.trans (hb3.mono b2.size)
  have A5 := (Below.refl w5.heap.size w5).alloc (Nat.le_refl _) (.cells #[.int .i64 R5.k, .int .i64 R5.n, .bool R5.g, .slice R5.A R5.ln R5.lc, .int .u64 R5.u, .string R5.s, .slice R5.B R5.m R5.d] 28)
  have A3 := b3.trans (A5.mono b3.size)
  have V3 := V2.below A3
  have U := Vt.new T5
  have b6 := b5.trans (A3.mono b5.size)
  have hk : (R5.k == 2) = true := by rw [← T5.kind, aw_kind]; rfl
  clear T1 T1' T2 T5 hb1 hb2 hb3 b2 b3 A3 A5 V2 b5
  go_upto_region 4 with fail
  generalize w5.alloc (.cells #[.int .i64 R5.k, .int .i64 R5.n, .bool R5.g, .slice R5.A R5.ln R5.lc, .int .u64 R5.u, .string R5.s, .slice R5.B R5.m R5.d] 28) = W3 at *
  have y0 := V3.bx.at.c0; have y1 := V3.bx.at.c1; have y2 := V3.bx.at.c2; have y3 := V3.bx.at.c3; have y4 := V3.bx.at.c4; have y5 := V3.bx.at.c5; have y6 := V3.bx.at.c6
  go_wp2_with fail
  refine (sameTerm_eq (fltT 9218868437227405312) W3 R3 (mkR 3 0 9218868437227405312 ⟨#[]⟩ none 0 0) V3.tv (flt_tv (by omega) (by omega))).mono ?_
  rintro e w6 ⟨rfl, hb6⟩
  have U2 := U.below hb6
  have b7 := b6.trans (hb6.mono b6.size)
  have x0 := U2.bx.at.c0
  clear y0 y1 y2 y3 y4 y5 y6
  go_wp2
  go_ret
  exact ⟨rfl, b7⟩
end Go.Proofs.YtompimbeaeinbaaGreat
