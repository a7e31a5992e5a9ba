/-
  THE WALK OF OrderClasses.
-/
import Derived.Test.YtbhmkdbdhojmcaaJ11
namespace Go.Proofs.Ytbhmkdbdhojmcaa
open Go.RowKit
open Od

set_option maxRecDepth 100000 in
theorem of_any' (c : Nat) (hc : c < 7) (w : World) (n : Int) (h1 : -9223372036854775808 ≤ n) (h2 : n ≤ 9223372036854775807) : Calls Try.prog 24 #[.int .i64 (c : Int), .int .i64 n] w (OfC w c) := by
  have h : c = 0 ∨ c = 1 ∨ c = 2 ∨ c = 3 ∨ c = 4 ∨ c = 5 ∨ c = 6 := by omega
  rcases h with rfl | rfl | rfl | rfl | rfl | rfl | rfl
  · exact of_c0 w n h1 h2
  · exact of_c1 w n h1 h2
  · exact of_c2 w n h1 h2
  · exact of_c3 w n h1 h2
  · exact of_c4 w n h1 h2
  · exact of_c5 w n h1 h2
  · exact of_c6 w n h1 h2
set_option maxRecDepth 100000 in
theorem ord_classes {t t' : Tm} {a b : Nat} (hm : t.mayB = true) (hm' : t'.mayB = true) (hc : cls t.kind = (a : Int) + 1) (hc' : cls t'.kind = (b : Int) + 1) (hn : a ≠ b) : Tm.ordB t t' = if a < b then -1 else 1 := by
  rw [ordB_may hm hm', cmpT_cls (by omega), hc, hc']
  unfold Od.sg
  by_cases h : a < b
  · rw [if_pos h, if_pos (by omega)]
  · rw [if_neg h, if_neg (by omega), if_pos (by omega)]

set_option maxRecDepth 100000 in
set_option maxHeartbeats 8000000 in
theorem orderClasses_walk (w : World) (i k n m : Int) (n1 : -9223372036854775808 ≤ n) (n2 : n ≤ 9223372036854775807) (m1 : -9223372036854775808 ≤ m) (m2 : m ≤ 9223372036854775807) :
    Calls Try.prog 6 #[.int .i64 i, .int .i64 k, .int .i64 n, .int .i64 m] w fun e w' => e = .returned (.bool true) ∧ Below w.heap.size w w' := by
  obtain ⟨a, ha, hla⟩ := low_nat i 7 (by omega) (by omega)
  obtain ⟨b, hb, hlb⟩ := low_nat k 7 (by omega) (by omega)
  go_enter Try.func6, Try.ntmps6
  go_wp2_with fail
  refine (hla w).mono ?_
  rintro e v ⟨rfl, rfl⟩
  go_wp2_with fail
  refine (hlb w).mono ?_
  rintro e v ⟨rfl, rfl⟩
  go_wp2_with fail
  refine (of_any' a ha w n n1 n2).mono ?_
  rintro e w1 ⟨R, t, rfl, hT, ok1, may1, cl1, hb1⟩
  go_wp2_with fail
  refine (of_any' b hb w1 m m1 m2).mono ?_
  rintro e w2 ⟨R', t', rfl, hT', ok2, may2, cl2, hb2⟩
  have I := SmI.new (hT.bel hb2) hT'
  have b2 := hb1.trans (hb2.mono hb1.size)
  clear hT hT' hla hlb n1 n2 m1 m2 hb1 hb2
  have hcase : a = b ∨ a < b ∨ b < a := by omega
  rcases hcase with hab | hab
  · subst hab
    have e1 : decide ((a : Int) < (a : Int)) = false := decide_eq_false (by omega)
    have e2 : ((a : Int) == (a : Int)) = true := beq_iff_eq.2 rfl
    have y0 := I.bx.at.c0; have y1 := I.bx.at.c1; have y2 := I.bx.at.c2; have y3 := I.bx.at.c3; have y4 := I.bx.at.c4; have y5 := I.bx.at.c5; have y6 := I.bx.at.c6
    go_wp2_with fail
    generalize (w2.alloc (.cells #[.int .i64 R.k, .int .i64 R.n, .bool R.g, .slice R.A R.ln R.lc, .int .u64 R.u, .string R.s, .slice R.B R.m R.d] 28)).alloc (.cells #[.int .i64 R'.k, .int .i64 R'.n, .bool R'.g, .slice R'.A R'.ln R'.lc, .int .u64 R'.u, .string R'.s, .slice R'.B R'.m R'.d] 28) = W at *
    refine (mayTerm_any W R t I.tv ok1.out).mono ?_
    rw [may1.out]
    rintro e v1 ⟨rfl, hv1⟩
    have I1 := I.below hv1
    clear I y0 y1 y2 y3 y4 y5 y6
    have y0 := I1.ix.at.c0; have y1 := I1.ix.at.c1; have y2 := I1.ix.at.c2; have y3 := I1.ix.at.c3; have y4 := I1.ix.at.c4; have y5 := I1.ix.at.c5; have y6 := I1.ix.at.c6
    go_wp2_with fail
    refine (mayTerm_any v1 R' t' I1.tw ok2.out).mono ?_
    rw [may2.out]
    rintro e v2 ⟨rfl, hv2⟩
    have I2 := I1.below hv2
    clear I1 y0 y1 y2 y3 y4 y5 y6
    go_wp2_with fail
    refine (awake5 v2).mono ?_
    rintro e v3 ⟨rfl, hv3⟩
    go_wp2
    go_ret
    exact ⟨rfl, (b2.trans (I2.be.mono b2.size)).trans (hv3.mono (Nat.le_trans b2.size I2.be.size))⟩
  · have hne : a ≠ b := by omega
    have o1 := Lib.hid (ord_classes may1.out may2.out cl1.out cl2.out hne)
    have o2 := Lib.hid (ord_classes may2.out may1.out cl2.out cl1.out (Ne.symm hne))
    have e2 : ((a : Int) == (b : Int)) = false := beq_eq_false_iff_ne.2 (by omega)
    rcases hab with hab | hab
    · have e1 : (a : Int) < (b : Int) := by omega
      have e3 : ¬ (b : Int) < (a : Int) := by omega
      have O1 := Lib.hid (show Tm.ordB t t' = -1 by rw [o1.out, if_pos hab])
      have O2 := Lib.hid (show Tm.ordB t' t = 1 by rw [o2.out, if_neg (by omega)])
      clear o1 o2 hne
      have y0 := I.bx.at.c0; have y1 := I.bx.at.c1; have y2 := I.bx.at.c2; have y3 := I.bx.at.c3; have y4 := I.bx.at.c4; have y5 := I.bx.at.c5; have y6 := I.bx.at.c6; have x0 := I.ix.at.c0; have x1 := I.ix.at.c1; have x2 := I.ix.at.c2; have x3 := I.ix.at.c3; have x4 := I.ix.at.c4; have x5 := I.ix.at.c5; have x6 := I.ix.at.c6
      go_wp2_with fail
      generalize (w2.alloc (.cells #[.int .i64 R.k, .int .i64 R.n, .bool R.g, .slice R.A R.ln R.lc, .int .u64 R.u, .string R.s, .slice R.B R.m R.d] 28)).alloc (.cells #[.int .i64 R'.k, .int .i64 R'.n, .bool R'.g, .slice R'.A R'.ln R'.lc, .int .u64 R'.u, .string R'.s, .slice R'.B R'.m R'.d] 28) = W at *
      refine (cmp_term W R t I.tv ok1.out R' t' I.tw ok2.out).mono ?_
      rw [O1.out]
      rintro e v1 ⟨rfl, hv1⟩
      have I1 := I.below hv1
      clear I y0 y1 y2 y3 y4 y5 y6 x0 x1 x2 x3 x4 x5 x6
      have y0 := I1.bx.at.c0; have y1 := I1.bx.at.c1; have y2 := I1.bx.at.c2; have y3 := I1.bx.at.c3; have y4 := I1.bx.at.c4; have y5 := I1.bx.at.c5; have y6 := I1.bx.at.c6; have x0 := I1.ix.at.c0; have x1 := I1.ix.at.c1; have x2 := I1.ix.at.c2; have x3 := I1.ix.at.c3; have x4 := I1.ix.at.c4; have x5 := I1.ix.at.c5; have x6 := I1.ix.at.c6
      go_wp2_with fail
      refine (cmp_term v1 R' t' I1.tw ok2.out R t I1.tv ok1.out).mono ?_
      rw [O2.out]
      rintro e v2 ⟨rfl, hv2⟩
      have I2 := I1.below hv2
      clear I1 y0 y1 y2 y3 y4 y5 y6 x0 x1 x2 x3 x4 x5 x6
      have y0 := I2.bx.at.c0; have y1 := I2.bx.at.c1; have y2 := I2.bx.at.c2; have y3 := I2.bx.at.c3; have y4 := I2.bx.at.c4; have y5 := I2.bx.at.c5; have y6 := I2.bx.at.c6
      go_wp2_with fail
      refine (mayTerm_any v2 R t I2.tv ok1.out).mono ?_
      rw [may1.out]
      rintro e v3 ⟨rfl, hv3⟩
      have I3 := I2.below hv3
      clear I2 y0 y1 y2 y3 y4 y5 y6
      have y0 := I3.ix.at.c0; have y1 := I3.ix.at.c1; have y2 := I3.ix.at.c2; have y3 := I3.ix.at.c3; have y4 := I3.ix.at.c4; have y5 := I3.ix.at.c5; have y6 := I3.ix.at.c6
      go_wp2_with fail
      refine (mayTerm_any v3 R' t' I3.tw ok2.out).mono ?_
      rw [may2.out]
      rintro e v4 ⟨rfl, hv4⟩
      have I4 := I3.below hv4
      clear I3 y0 y1 y2 y3 y4 y5 y6
      go_wp2_with fail
      refine (awake5 v4).mono ?_
      rintro e v5 ⟨rfl, hv5⟩
      go_wp2
      go_ret
      exact ⟨rfl, (b2.trans (I4.be.mono b2.size)).trans (hv5.mono (Nat.le_trans b2.size I4.be.size))⟩
    · have e1 : ¬ (a : Int) < (b : Int) := by omega
      have e3 : (b : Int) < (a : Int) := by omega
      have O1 := Lib.hid (show Tm.ordB t t' = 1 by rw [o1.out, if_neg (by omega)])
      have O2 := Lib.hid (show Tm.ordB t' t = -1 by rw [o2.out, if_pos hab])
      clear o1 o2 hne
      have y0 := I.bx.at.c0; have y1 := I.bx.at.c1; have y2 := I.bx.at.c2; have y3 := I.bx.at.c3; have y4 := I.bx.at.c4; have y5 := I.bx.at.c5; have y6 := I.bx.at.c6; have x0 := I.ix.at.c0; have x1 := I.ix.at.c1; have x2 := I.ix.at.c2; have x3 := I.ix.at.c3; have x4 := I.ix.at.c4; have x5 := I.ix.at.c5; have x6 := I.ix.at.c6
      go_wp2_with fail
      generalize (w2.alloc (.cells #[.int .i64 R.k, .int .i64 R.n, .bool R.g, .slice R.A R.ln R.lc, .int .u64 R.u, .string R.s, .slice R.B R.m R.d] 28)).alloc (.cells #[.int .i64 R'.k, .int .i64 R'.n, .bool R'.g, .slice R'.A R'.ln R'.lc, .int .u64 R'.u, .string R'.s, .slice R'.B R'.m R'.d] 28) = W at *
      refine (cmp_term W R t I.tv ok1.out R' t' I.tw ok2.out).mono ?_
      rw [O1.out]
      rintro e v1 ⟨rfl, hv1⟩
      have I1 := I.below hv1
      clear I y0 y1 y2 y3 y4 y5 y6 x0 x1 x2 x3 x4 x5 x6
      have y0 := I1.bx.at.c0; have y1 := I1.bx.at.c1; have y2 := I1.bx.at.c2; have y3 := I1.bx.at.c3; have y4 := I1.bx.at.c4; have y5 := I1.bx.at.c5; have y6 := I1.bx.at.c6; have x0 := I1.ix.at.c0; have x1 := I1.ix.at.c1; have x2 := I1.ix.at.c2; have x3 := I1.ix.at.c3; have x4 := I1.ix.at.c4; have x5 := I1.ix.at.c5; have x6 := I1.ix.at.c6
      go_wp2_with fail
      refine (cmp_term v1 R' t' I1.tw ok2.out R t I1.tv ok1.out).mono ?_
      rw [O2.out]
      rintro e v2 ⟨rfl, hv2⟩
      have I2 := I1.below hv2
      clear I1 y0 y1 y2 y3 y4 y5 y6 x0 x1 x2 x3 x4 x5 x6
      have y0 := I2.bx.at.c0; have y1 := I2.bx.at.c1; have y2 := I2.bx.at.c2; have y3 := I2.bx.at.c3; have y4 := I2.bx.at.c4; have y5 := I2.bx.at.c5; have y6 := I2.bx.at.c6
      go_wp2_with fail
      refine (mayTerm_any v2 R t I2.tv ok1.out).mono ?_
      rw [may1.out]
      rintro e v3 ⟨rfl, hv3⟩
      have I3 := I2.below hv3
      clear I2 y0 y1 y2 y3 y4 y5 y6
      have y0 := I3.ix.at.c0; have y1 := I3.ix.at.c1; have y2 := I3.ix.at.c2; have y3 := I3.ix.at.c3; have y4 := I3.ix.at.c4; have y5 := I3.ix.at.c5; have y6 := I3.ix.at.c6
      go_wp2_with fail
      refine (mayTerm_any v3 R' t' I3.tw ok2.out).mono ?_
      rw [may2.out]
      rintro e v4 ⟨rfl, hv4⟩
      have I4 := I3.below hv4
      clear I3 y0 y1 y2 y3 y4 y5 y6
      go_wp2_with fail
      refine (awake5 v4).mono ?_
      rintro e v5 ⟨rfl, hv5⟩
      go_wp2
      go_ret
      exact ⟨rfl, (b2.trans (I4.be.mono b2.size)).trans (hv5.mono (Nat.le_trans b2.size I4.be.size))⟩
end Go.Proofs.Ytbhmkdbdhojmcaa
