/-
  THE REFERENCE's ORDER (chapter 5): class, sign, numbers.
  THE REFERENCE's ORDER (chapter 5): numbers.
  THE REFERENCE's ORDER (chapter 5): cmp, Cmp, Less.
  THE REFERENCE's ORDER (chapter 5): cmp whole, Cmp, Less.
-/
import Derived.Test.YtmcfokeibecopaaK14
import Derived.Test.YtmcfokeibecopaaK18
import Derived.Test.YtmcfokeibecopaaK12
import Derived.Test.YtmcfokeibecopaaK8
namespace Go.Proofs.Ytmcfokeibecopaa
open Go.RowKit
open Od

set_option maxRecDepth 100000 in
set_option maxRecDepth 100000 in
set_option maxHeartbeats 4000000 in
theorem refClass_any (w : World) (r : TR) (hk : r.k = 1 ∨ r.k = 2 ∨ r.k = 3 ∨ r.k = 4 ∨ r.k = 5 ∨ r.k = 6 ∨ r.k = 7 ∨ r.k = 8 ∨ r.k = 9) :
    Calls Try.prog 39 #[.agg #[.int .i64 r.k, .int .i64 r.n, .bool r.g, .slice r.A r.ln r.lc, .int .u64 r.u, .string r.s, .slice r.B r.m r.d]] w (IntPost w (cls r.k)) := by
  have hb0 := ((Below.refl w.heap.size w).alloc (Nat.le_refl _) (.cells #[.int .i64 r.k, .int .i64 r.n, .bool r.g, .slice r.A r.ln r.lc, .int .u64 r.u, .string r.s, .slice r.B r.m r.d] 28)).alloc (by simp) (.cells #[.int .i64 0, .int .i64 1, .int .i64 1, .int .i64 1, .int .i64 2, .int .i64 3, .int .i64 4, .int .i64 5, .int .i64 6, .int .i64 7] 3)
  obtain ⟨k, n, g, A, ln, lc, u, s, B, m, d⟩ := r
  simp only at hk hb0 ⊢
  rcases hk with rfl | rfl | rfl | rfl | rfl | rfl | rfl | rfl | rfl
  all_goals
    go_enter Try.func39, Try.ntmps39
    go_wp2
    go_ret
    exact ⟨rfl, hb0⟩

set_option maxRecDepth 100000 in
theorem refSign_any (x y : Int) (w : World) : Calls Try.prog 40 #[.int .i64 x, .int .i64 y] w fun e w' => e = .returned (.int .i64 (Od.sg x y)) ∧ w = w' := by
  rcases Int.lt_trichotomy x y with h | h | h
  · have fin : Hid (Od.sg x y = -1) := Lib.hid (by unfold Od.sg; rw [if_pos h])
    have hd : decide (x < y) = true := decide_eq_true h
    clear h
    go_enter Try.func40, Try.ntmps40
    go_wp2
    go_ret
    rw [fin.out]; exact ⟨rfl, rfl⟩
  · subst h
    have fin : Hid (Od.sg x x = 0) := Lib.hid (sg_self x)
    go_enter Try.func40, Try.ntmps40
    go_wp2
    go_ret
    rw [fin.out]; exact ⟨rfl, rfl⟩
  · have fin : Hid (Od.sg x y = 1) := Lib.hid (by unfold Od.sg; rw [if_neg (by omega), if_pos h])
    have hd : decide (x < y) = false := decide_eq_false (by omega)
    have hd' : decide (y < x) = true := decide_eq_true h
    clear h
    go_enter Try.func40, Try.ntmps40
    go_wp2
    go_ret
    rw [fin.out]; exact ⟨rfl, rfl⟩

/-- What the reference's Num leaves of an integer. -/
def RnP (w : World) (z : Int) (e : Ending) (w' : World) : Prop :=
  ∃ (g : Bool) (A : Option Addr) (n c : Nat) (l : List Nat), e = .returned (.tuple #[.agg #[.bool g, .slice A n c], .bool true]) ∧ Raw w' A n c l ∧ Hid (mayB g l = true) ∧ Hid (sgn g (Lm.val l) = z) ∧ Below w.heap.size w w'
set_option maxRecDepth 100000 in
theorem refNum_z (w : World) (r : TR) (t : Tm) (h : TV w r t) (ho : t.Ok) (hm : t.mayB = true) (hk : t.kind = 1 ∨ t.kind = 2) : Calls Try.prog 63 #[.agg #[.int .i64 r.k, .int .i64 r.n, .bool r.g, .slice r.A r.ln r.lc, .int .u64 r.u, .string r.s, .slice r.B r.m r.d]] w (RnP w t.zOf) := by
  obtain ⟨hb, _⟩ := Tm.form_bound (Tm.may_form hm)
  rcases hk with hk | hk
  · refine (refNum_int w r t h ho hm hk).mono ?_
    rintro e w' ⟨s, A, n, c, rfl, hnm, hb'⟩
    have hz : t.zOf = t.num := by unfold Tm.zOf; rw [if_pos hk]
    have h0 := h.flat.n0
    have h1 := h.flat.n1
    rw [← h.num] at h0 h1
    exact ⟨s, A, n, c, _, rfl, hnm.1, Lib.hid (hnm.may (by have := Lm.top_ge; omega)), Lib.hid (by rw [hz]; exact hnm.eqZ), hb'⟩
  · refine (refNum_big w r t h ho hm hk).mono ?_
    rintro e w' hp
    have hz : t.zOf = sgn t.neg (Lm.val t.mag) := by unfold Tm.zOf; rw [if_neg (by omega)]
    have hmb : mayB t.neg t.mag = true := by
      unfold Tm.boundB at hb
      rw [hk] at hb
      simp at hb
      exact hb.1
    obtain ⟨A, c, rfl, hO, hb'⟩ := hp
    exact ⟨_, A, _, c, _, rfl, ⟨hO.lim, hO.cap.2⟩, Lib.hid hmb, Lib.hid hz.symm, hb'⟩
set_option maxRecDepth 100000 in
theorem flt_cl {w : World} {r : TR} {t : Tm} (h : TV w r t) (hm : t.mayB = true) (hk : t.kind = 3) : Cl r.u := by
  obtain ⟨hb, _⟩ := Tm.form_bound (Tm.may_form hm)
  unfold Tm.boundB at hb
  rw [hk] at hb
  simp at hb
  rw [h.bits] at hb
  refine ⟨h.u64, fun hn => ?_⟩
  rw [← hb]
  unfold cleanI cleanN
  rw [if_pos hn]
  rfl
set_option maxRecDepth 100000 in
theorem clean_cl2 {b : Int} (h : Cl b) : cleanI b = b := clean_cl' h
end Go.Proofs.Ytmcfokeibecopaa

namespace Go.Proofs.Ytmcfokeibecopaa
open Go.RowKit
open Od

set_option maxRecDepth 100000 in
set_option maxRecDepth 100000 in
set_option maxHeartbeats 4000000 in
theorem rnums_ii (w : World) (r : TR) (t : Tm) (h : TV w r t) (ho : t.Ok) (hm : t.mayB = true) (r' : TR) (t' : Tm) (h' : TV w r' t') (ho' : t'.Ok) (hm' : t'.mayB = true) (hk : t.kind = 1 ∨ t.kind = 2) (hk' : t'.kind = 1 ∨ t'.kind = 2) :
    Calls Try.prog 41 #[.agg #[.int .i64 r.k, .int .i64 r.n, .bool r.g, .slice r.A r.ln r.lc, .int .u64 r.u, .string r.s, .slice r.B r.m r.d], .agg #[.int .i64 r'.k, .int .i64 r'.n, .bool r'.g, .slice r'.A r'.ln r'.lc, .int .u64 r'.u, .string r'.s, .slice r'.B r'.m r'.d]] w (IntPost w (lex Od.sg t.leafKey t'.leafKey)) := by
  have fin : lex Od.sg t.leafKey t'.leafKey = cmpZ t.zOf t'.zOf := by rw [leafKey_int hk, leafKey_int hk', zkey_z]
  rw [fin]
  obtain ⟨R, hR⟩ : ∃ R, R = cmpZ t.zOf t'.zOf := ⟨_, rfl⟩
  rw [← hR]
  have HR := Lib.hid hR
  clear hR fin
  have I := SmI.new h h'
  clear h h'
  have y0 := I.bx.at.c0; have y1 := I.bx.at.c1; have y2 := I.bx.at.c2; have y3 := I.bx.at.c3; have y4 := I.bx.at.c4; have y5 := I.bx.at.c5; have y6 := I.bx.at.c6
  go_enter Try.func41, Try.ntmps41
  go_wp2_with fail
  generalize (w.alloc (.cells #[.int .i64 r.k, .int .i64 r.n, .bool r.g, .slice r.A r.ln r.lc, .int .u64 r.u, .string r.s, .slice r.B r.m r.d] 28)).alloc (.cells #[.int .i64 r'.k, .int .i64 r'.n, .bool r'.g, .slice r'.A r'.ln r'.lc, .int .u64 r'.u, .string r'.s, .slice r'.B r'.m r'.d] 28) = W at *
  refine (refNum_z W r t I.tv ho hm hk).mono ?_
  rintro _ v1 ⟨g1, A1, n1, c1, l1, rfl, raw1, mm1, zz1, hv1⟩
  have I1 := (I.below hv1).below ((Below.refl _ _).alloc (Nat.le_refl _) (.cells #[.bool g1, .slice A1 n1 c1] 24))
  have nb1 := Box.new v1 (.bool g1) (.slice A1 n1 c1)
  have rw1 := raw1.below ((Below.refl _ _).alloc (Nat.le_refl _) (.cells #[.bool g1, .slice A1 n1 c1] 24))
  clear raw1
  clear I y0 y1 y2 y3 y4 y5 y6
  have y0 := I1.ix.at.c0; have y1 := I1.ix.at.c1; have y2 := I1.ix.at.c2; have y3 := I1.ix.at.c3; have y4 := I1.ix.at.c4; have y5 := I1.ix.at.c5; have y6 := I1.ix.at.c6
  go_wp2_with fail
  obtain ⟨p, hp⟩ : ∃ p, p = v1.heap.size := ⟨_, rfl⟩
  generalize v1.alloc (.cells #[.bool g1, .slice A1 n1 c1] 24) = W1 at *
  rw [← hp] at nb1 ⊢
  clear hp hv1
  refine (refNum_z W1 r' t' I1.tw ho' hm' hk').mono ?_
  rintro _ v2 ⟨g2, A2, n2, c2, l2, rfl, raw2, mm2, zz2, hv2⟩
  have I2 := (I1.below hv2).below ((Below.refl _ _).alloc (Nat.le_refl _) (.cells #[.bool g2, .slice A2 n2 c2] 24))
  have nb2 := (nb1.below' hv2).below' ((Below.refl _ _).alloc (Nat.le_refl _) (.cells #[.bool g2, .slice A2 n2 c2] 24))
  have nc2 := Box.new v2 (.bool g2) (.slice A2 n2 c2)
  have rw2 := raw2.below ((Below.refl _ _).alloc (Nat.le_refl _) (.cells #[.bool g2, .slice A2 n2 c2] 24))
  clear raw2
  have rw1' := (rw1.below hv2).below ((Below.refl _ _).alloc (Nat.le_refl _) (.cells #[.bool g2, .slice A2 n2 c2] 24))
  clear rw1
  clear I1 y0 y1 y2 y3 y4 y5 y6 nb1
  have y0 := I2.bx.at.c0; have y1 := I2.bx.at.c1; have y2 := I2.bx.at.c2; have y3 := I2.bx.at.c3; have y4 := I2.bx.at.c4; have y5 := I2.bx.at.c5; have y6 := I2.bx.at.c6; have x0 := I2.ix.at.c0; have x1 := I2.ix.at.c1; have x2 := I2.ix.at.c2; have x3 := I2.ix.at.c3; have x4 := I2.ix.at.c4; have x5 := I2.ix.at.c5; have x6 := I2.ix.at.c6
  have a0 := nb2.c0
  have a1 := nb2.c1
  have b0 := nc2.c0
  have b1 := nc2.c1
  go_wp2_with fail
  generalize v2.alloc (.cells #[.bool g2, .slice A2 n2 c2] 24) = W2 at *
  refine (refCmp_raw W2 g1 g2 A1 A2 n1 c1 n2 c2 l1 l2 rw1' rw2).mono ?_
  rw [cmpR_of mm1 zz1 mm2 zz2, ← HR.out]
  rintro _ v3 ⟨rfl, hv3⟩
  go_wp2
  go_ret
  exact ⟨rfl, I2.be.trans (hv3.mono I2.be.size)⟩

set_option maxRecDepth 100000 in
set_option maxRecDepth 100000 in
set_option maxHeartbeats 4000000 in
theorem rnums_if (w : World) (r : TR) (t : Tm) (h : TV w r t) (ho : t.Ok) (hm : t.mayB = true) (r' : TR) (t' : Tm) (h' : TV w r' t') (ho' : t'.Ok) (hm' : t'.mayB = true) (hk : t.kind = 1 ∨ t.kind = 2) (hk' : t'.kind = 3) :
    Calls Try.prog 41 #[.agg #[.int .i64 r.k, .int .i64 r.n, .bool r.g, .slice r.A r.ln r.lc, .int .u64 r.u, .string r.s, .slice r.B r.m r.d], .agg #[.int .i64 r'.k, .int .i64 r'.n, .bool r'.g, .slice r'.A r'.ln r'.lc, .int .u64 r'.u, .string r'.s, .slice r'.B r'.m r'.d]] w (IntPost w (lex Od.sg t.leafKey t'.leafKey)) := by
  have fin : lex Od.sg t.leafKey t'.leafKey = cmpNumZ t.zOf r'.u.toNat := by rw [leafKey_int hk, leafKey_flt hk', zkey_f, h'.bits]
  rw [fin]
  have cl' := flt_cl h' hm' hk'
  obtain ⟨R, hR⟩ : ∃ R, R = cmpNumZ t.zOf r'.u.toNat := ⟨_, rfl⟩
  rw [← hR]
  have HR := Lib.hid hR
  clear hR fin
  have I := SmI.new h h'
  clear h h'
  have y0 := I.bx.at.c0; have y1 := I.bx.at.c1; have y2 := I.bx.at.c2; have y3 := I.bx.at.c3; have y4 := I.bx.at.c4; have y5 := I.bx.at.c5; have y6 := I.bx.at.c6
  go_enter Try.func41, Try.ntmps41
  go_wp2_with fail
  generalize (w.alloc (.cells #[.int .i64 r.k, .int .i64 r.n, .bool r.g, .slice r.A r.ln r.lc, .int .u64 r.u, .string r.s, .slice r.B r.m r.d] 28)).alloc (.cells #[.int .i64 r'.k, .int .i64 r'.n, .bool r'.g, .slice r'.A r'.ln r'.lc, .int .u64 r'.u, .string r'.s, .slice r'.B r'.m r'.d] 28) = W at *
  refine (refNum_z W r t I.tv ho hm hk).mono ?_
  rintro _ v1 ⟨g1, A1, n1, c1, l1, rfl, raw1, mm1, zz1, hv1⟩
  have I1 := (I.below hv1).below ((Below.refl _ _).alloc (Nat.le_refl _) (.cells #[.bool g1, .slice A1 n1 c1] 24))
  have nb1 := Box.new v1 (.bool g1) (.slice A1 n1 c1)
  have rw1 := raw1.below ((Below.refl _ _).alloc (Nat.le_refl _) (.cells #[.bool g1, .slice A1 n1 c1] 24))
  clear raw1
  clear I y0 y1 y2 y3 y4 y5 y6
  have y0 := I1.ix.at.c0; have y1 := I1.ix.at.c1; have y2 := I1.ix.at.c2; have y3 := I1.ix.at.c3; have y4 := I1.ix.at.c4; have y5 := I1.ix.at.c5; have y6 := I1.ix.at.c6
  go_wp2_with fail
  obtain ⟨p, hp⟩ : ∃ p, p = v1.heap.size := ⟨_, rfl⟩
  generalize v1.alloc (.cells #[.bool g1, .slice A1 n1 c1] 24) = W1 at *
  rw [← hp] at nb1 ⊢
  clear hp hv1
  refine (refNum_no W1 r' t' I1.tw ho' (.inr ⟨by omega, by omega⟩)).mono ?_
  rintro _ v2 ⟨rfl, hv2⟩
  have I2 := (I1.below hv2).below ((Below.refl _ _).alloc (Nat.le_refl _) (.cells #[.bool false, .slice none 0 0] 24))
  have nb2 := (nb1.below' hv2).below' ((Below.refl _ _).alloc (Nat.le_refl _) (.cells #[.bool false, .slice none 0 0] 24))
  have nc2 := Box.new v2 (.bool false) (.slice none 0 0)
  have rw1' := (rw1.below hv2).below ((Below.refl _ _).alloc (Nat.le_refl _) (.cells #[.bool false, .slice none 0 0] 24))
  clear rw1
  clear I1 y0 y1 y2 y3 y4 y5 y6 nb1
  have y0 := I2.bx.at.c0; have y1 := I2.bx.at.c1; have y2 := I2.bx.at.c2; have y3 := I2.bx.at.c3; have y4 := I2.bx.at.c4; have y5 := I2.bx.at.c5; have y6 := I2.bx.at.c6; have x0 := I2.ix.at.c0; have x1 := I2.ix.at.c1; have x2 := I2.ix.at.c2; have x3 := I2.ix.at.c3; have x4 := I2.ix.at.c4; have x5 := I2.ix.at.c5; have x6 := I2.ix.at.c6
  have a0 := nb2.c0
  have a1 := nb2.c1
  have b0 := nc2.c0
  have b1 := nc2.c1
  go_wp2_with fail
  generalize v2.alloc (.cells #[.bool false, .slice none 0 0] 24) = W2 at *
  refine (refCmpNum_any W2 g1 A1 n1 c1 l1 rw1' r'.u cl').mono ?_
  rw [cmpNumR_of mm1 zz1, ← HR.out]
  rintro _ v3 ⟨rfl, hv3⟩
  go_wp2
  go_ret
  exact ⟨rfl, I2.be.trans (hv3.mono I2.be.size)⟩

set_option maxRecDepth 100000 in
set_option maxRecDepth 100000 in
set_option maxHeartbeats 4000000 in
theorem rnums_fi (w : World) (r : TR) (t : Tm) (h : TV w r t) (ho : t.Ok) (hm : t.mayB = true) (r' : TR) (t' : Tm) (h' : TV w r' t') (ho' : t'.Ok) (hm' : t'.mayB = true) (hk : t.kind = 3) (hk' : t'.kind = 1 ∨ t'.kind = 2) :
    Calls Try.prog 41 #[.agg #[.int .i64 r.k, .int .i64 r.n, .bool r.g, .slice r.A r.ln r.lc, .int .u64 r.u, .string r.s, .slice r.B r.m r.d], .agg #[.int .i64 r'.k, .int .i64 r'.n, .bool r'.g, .slice r'.A r'.ln r'.lc, .int .u64 r'.u, .string r'.s, .slice r'.B r'.m r'.d]] w (IntPost w (lex Od.sg t.leafKey t'.leafKey)) := by
  have fin : lex Od.sg t.leafKey t'.leafKey = -cmpNumZ t'.zOf r.u.toNat := by rw [leafKey_flt hk, leafKey_int hk', fkey_z, h.bits]
  rw [fin]
  have cl := flt_cl h hm hk
  obtain ⟨R, hR⟩ : ∃ R, R = -cmpNumZ t'.zOf r.u.toNat := ⟨_, rfl⟩
  rw [← hR]
  have HR := Lib.hid hR
  clear hR fin
  have I := SmI.new h h'
  clear h h'
  have y0 := I.bx.at.c0; have y1 := I.bx.at.c1; have y2 := I.bx.at.c2; have y3 := I.bx.at.c3; have y4 := I.bx.at.c4; have y5 := I.bx.at.c5; have y6 := I.bx.at.c6
  go_enter Try.func41, Try.ntmps41
  go_wp2_with fail
  generalize (w.alloc (.cells #[.int .i64 r.k, .int .i64 r.n, .bool r.g, .slice r.A r.ln r.lc, .int .u64 r.u, .string r.s, .slice r.B r.m r.d] 28)).alloc (.cells #[.int .i64 r'.k, .int .i64 r'.n, .bool r'.g, .slice r'.A r'.ln r'.lc, .int .u64 r'.u, .string r'.s, .slice r'.B r'.m r'.d] 28) = W at *
  refine (refNum_no W r t I.tv ho (.inr ⟨by omega, by omega⟩)).mono ?_
  rintro _ v1 ⟨rfl, hv1⟩
  have I1 := (I.below hv1).below ((Below.refl _ _).alloc (Nat.le_refl _) (.cells #[.bool false, .slice none 0 0] 24))
  have nb1 := Box.new v1 (.bool false) (.slice none 0 0)
  clear I y0 y1 y2 y3 y4 y5 y6
  have y0 := I1.ix.at.c0; have y1 := I1.ix.at.c1; have y2 := I1.ix.at.c2; have y3 := I1.ix.at.c3; have y4 := I1.ix.at.c4; have y5 := I1.ix.at.c5; have y6 := I1.ix.at.c6
  go_wp2_with fail
  obtain ⟨p, hp⟩ : ∃ p, p = v1.heap.size := ⟨_, rfl⟩
  generalize v1.alloc (.cells #[.bool false, .slice none 0 0] 24) = W1 at *
  rw [← hp] at nb1 ⊢
  clear hp hv1
  refine (refNum_z W1 r' t' I1.tw ho' hm' hk').mono ?_
  rintro _ v2 ⟨g2, A2, n2, c2, l2, rfl, raw2, mm2, zz2, hv2⟩
  have I2 := (I1.below hv2).below ((Below.refl _ _).alloc (Nat.le_refl _) (.cells #[.bool g2, .slice A2 n2 c2] 24))
  have nb2 := (nb1.below' hv2).below' ((Below.refl _ _).alloc (Nat.le_refl _) (.cells #[.bool g2, .slice A2 n2 c2] 24))
  have nc2 := Box.new v2 (.bool g2) (.slice A2 n2 c2)
  have rw2 := raw2.below ((Below.refl _ _).alloc (Nat.le_refl _) (.cells #[.bool g2, .slice A2 n2 c2] 24))
  clear raw2
  clear I1 y0 y1 y2 y3 y4 y5 y6 nb1
  have y0 := I2.bx.at.c0; have y1 := I2.bx.at.c1; have y2 := I2.bx.at.c2; have y3 := I2.bx.at.c3; have y4 := I2.bx.at.c4; have y5 := I2.bx.at.c5; have y6 := I2.bx.at.c6; have x0 := I2.ix.at.c0; have x1 := I2.ix.at.c1; have x2 := I2.ix.at.c2; have x3 := I2.ix.at.c3; have x4 := I2.ix.at.c4; have x5 := I2.ix.at.c5; have x6 := I2.ix.at.c6
  have a0 := nb2.c0
  have a1 := nb2.c1
  have b0 := nc2.c0
  have b1 := nc2.c1
  go_wp2_with fail
  generalize v2.alloc (.cells #[.bool g2, .slice A2 n2 c2] 24) = W2 at *
  have ht := cmpNumZ_tri t'.zOf r.u.toNat
  refine (refCmpNum_any W2 g2 A2 n2 c2 l2 rw2 r.u cl).mono ?_
  rw [cmpNumR_of mm2 zz2]
  obtain ⟨Q, hQ⟩ : ∃ Q, Q = cmpNumZ t'.zOf r.u.toNat := ⟨_, rfl⟩
  rw [← hQ] at ht ⊢
  have HQ := Lib.hid hQ
  clear hQ
  rintro _ v3 ⟨rfl, hv3⟩
  have e1 : IntKind.i64.wrap (-Q) = -Q := by rcases ht with rfl | rfl <;> rfl
  have hq1 : -1 ≤ Q ∧ Q ≤ 1 := by omega
  go_wp2
  go_ret
  exact ⟨by rw [HR.out, ← HQ.out]; first | rfl | (rw [← e1]; rfl), I2.be.trans (hv3.mono I2.be.size)⟩

set_option maxRecDepth 100000 in
set_option maxRecDepth 100000 in
set_option maxHeartbeats 4000000 in
theorem rnums_ff (w : World) (r : TR) (t : Tm) (h : TV w r t) (ho : t.Ok) (hm : t.mayB = true) (r' : TR) (t' : Tm) (h' : TV w r' t') (ho' : t'.Ok) (hm' : t'.mayB = true) (hk : t.kind = 3) (hk' : t'.kind = 3) :
    Calls Try.prog 41 #[.agg #[.int .i64 r.k, .int .i64 r.n, .bool r.g, .slice r.A r.ln r.lc, .int .u64 r.u, .string r.s, .slice r.B r.m r.d], .agg #[.int .i64 r'.k, .int .i64 r'.n, .bool r'.g, .slice r'.A r'.ln r'.lc, .int .u64 r'.u, .string r'.s, .slice r'.B r'.m r'.d]] w (IntPost w (lex Od.sg t.leafKey t'.leafKey)) := by
  have fin : lex Od.sg t.leafKey t'.leafKey = cmpI r.u r'.u := by rw [leafKey_flt hk, leafKey_flt hk', fkey_f, h.bits, h'.bits]; rfl
  rw [fin]
  have cl := flt_cl h hm hk
  have cl' := flt_cl h' hm' hk'
  obtain ⟨R, hR⟩ : ∃ R, R = cmpI r.u r'.u := ⟨_, rfl⟩
  rw [← hR]
  have HR := Lib.hid hR
  clear hR fin
  have I := SmI.new h h'
  clear h h'
  have y0 := I.bx.at.c0; have y1 := I.bx.at.c1; have y2 := I.bx.at.c2; have y3 := I.bx.at.c3; have y4 := I.bx.at.c4; have y5 := I.bx.at.c5; have y6 := I.bx.at.c6
  go_enter Try.func41, Try.ntmps41
  go_wp2_with fail
  generalize (w.alloc (.cells #[.int .i64 r.k, .int .i64 r.n, .bool r.g, .slice r.A r.ln r.lc, .int .u64 r.u, .string r.s, .slice r.B r.m r.d] 28)).alloc (.cells #[.int .i64 r'.k, .int .i64 r'.n, .bool r'.g, .slice r'.A r'.ln r'.lc, .int .u64 r'.u, .string r'.s, .slice r'.B r'.m r'.d] 28) = W at *
  refine (refNum_no W r t I.tv ho (.inr ⟨by omega, by omega⟩)).mono ?_
  rintro _ v1 ⟨rfl, hv1⟩
  have I1 := (I.below hv1).below ((Below.refl _ _).alloc (Nat.le_refl _) (.cells #[.bool false, .slice none 0 0] 24))
  have nb1 := Box.new v1 (.bool false) (.slice none 0 0)
  clear I y0 y1 y2 y3 y4 y5 y6
  have y0 := I1.ix.at.c0; have y1 := I1.ix.at.c1; have y2 := I1.ix.at.c2; have y3 := I1.ix.at.c3; have y4 := I1.ix.at.c4; have y5 := I1.ix.at.c5; have y6 := I1.ix.at.c6
  go_wp2_with fail
  obtain ⟨p, hp⟩ : ∃ p, p = v1.heap.size := ⟨_, rfl⟩
  generalize v1.alloc (.cells #[.bool false, .slice none 0 0] 24) = W1 at *
  rw [← hp] at nb1 ⊢
  clear hp hv1
  refine (refNum_no W1 r' t' I1.tw ho' (.inr ⟨by omega, by omega⟩)).mono ?_
  rintro _ v2 ⟨rfl, hv2⟩
  have I2 := (I1.below hv2).below ((Below.refl _ _).alloc (Nat.le_refl _) (.cells #[.bool false, .slice none 0 0] 24))
  have nb2 := (nb1.below' hv2).below' ((Below.refl _ _).alloc (Nat.le_refl _) (.cells #[.bool false, .slice none 0 0] 24))
  have nc2 := Box.new v2 (.bool false) (.slice none 0 0)
  clear I1 y0 y1 y2 y3 y4 y5 y6 nb1
  have y0 := I2.bx.at.c0; have y1 := I2.bx.at.c1; have y2 := I2.bx.at.c2; have y3 := I2.bx.at.c3; have y4 := I2.bx.at.c4; have y5 := I2.bx.at.c5; have y6 := I2.bx.at.c6; have x0 := I2.ix.at.c0; have x1 := I2.ix.at.c1; have x2 := I2.ix.at.c2; have x3 := I2.ix.at.c3; have x4 := I2.ix.at.c4; have x5 := I2.ix.at.c5; have x6 := I2.ix.at.c6
  have a0 := nb2.c0
  have a1 := nb2.c1
  have b0 := nc2.c0
  have b1 := nc2.c1
  go_wp2_with fail
  generalize v2.alloc (.cells #[.bool false, .slice none 0 0] 24) = W2 at *
  refine (refCmpF_any W2 r.u r'.u cl.u cl'.u).mono ?_
  rw [clean_cl2 cl, clean_cl2 cl', ← HR.out]
  rintro _ v3 ⟨rfl, rfl⟩
  go_wp2
  go_ret
  exact ⟨rfl, I2.be⟩

set_option maxRecDepth 100000 in
theorem rnums_any (w : World) (r : TR) (t : Tm) (h : TV w r t) (ho : t.Ok) (hm : t.mayB = true) (r' : TR) (t' : Tm) (h' : TV w r' t') (ho' : t'.Ok) (hm' : t'.mayB = true) (hk : t.kind = 1 ∨ t.kind = 2 ∨ t.kind = 3) (hk' : t'.kind = 1 ∨ t'.kind = 2 ∨ t'.kind = 3) :
    Calls Try.prog 41 #[.agg #[.int .i64 r.k, .int .i64 r.n, .bool r.g, .slice r.A r.ln r.lc, .int .u64 r.u, .string r.s, .slice r.B r.m r.d], .agg #[.int .i64 r'.k, .int .i64 r'.n, .bool r'.g, .slice r'.A r'.ln r'.lc, .int .u64 r'.u, .string r'.s, .slice r'.B r'.m r'.d]] w (IntPost w (lex Od.sg t.leafKey t'.leafKey)) := by
  by_cases e : t.kind = 3
  · by_cases e' : t'.kind = 3
    · exact rnums_ff w r t h ho hm r' t' h' ho' hm' e e'
    · exact rnums_fi w r t h ho hm r' t' h' ho' hm' e (by omega)
  · by_cases e' : t'.kind = 3
    · exact rnums_if w r t h ho hm r' t' h' ho' hm' (by omega) e'
    · exact rnums_ii w r t h ho hm r' t' h' ho' hm' (by omega) (by omega)
end Go.Proofs.Ytmcfokeibecopaa

namespace Go.Proofs.Ytmcfokeibecopaa
open Go.RowKit
open Od

set_option maxRecDepth 100000 in
set_option maxRecDepth 100000 in
set_option maxHeartbeats 4000000 in
theorem rcmp_cls (w : World) (r : TR) (t : Tm) (h : TV w r t) (r' : TR) (t' : Tm) (h' : TV w r' t') (hk : r.k = 1 ∨ r.k = 2 ∨ r.k = 3 ∨ r.k = 4 ∨ r.k = 5 ∨ r.k = 6 ∨ r.k = 7 ∨ r.k = 8 ∨ r.k = 9) (hk' : r'.k = 1 ∨ r'.k = 2 ∨ r'.k = 3 ∨ r'.k = 4 ∨ r'.k = 5 ∨ r'.k = 6 ∨ r'.k = 7 ∨ r'.k = 8 ∨ r'.k = 9) (hc : cls r.k ≠ cls r'.k) :
    Calls Try.prog 22 #[.agg #[.int .i64 r.k, .int .i64 r.n, .bool r.g, .slice r.A r.ln r.lc, .int .u64 r.u, .string r.s, .slice r.B r.m r.d], .agg #[.int .i64 r'.k, .int .i64 r'.n, .bool r'.g, .slice r'.A r'.ln r'.lc, .int .u64 r'.u, .string r'.s, .slice r'.B r'.m r'.d]] w (IntPost w (Od.sg (cls r.k) (cls r'.k))) := by
  obtain ⟨R, hR⟩ : ∃ R, R = Od.sg (cls r.k) (cls r'.k) := ⟨_, rfl⟩
  rw [← hR]
  have HR := Lib.hid hR
  clear hR
  have hd : (cls r.k != cls r'.k) = true := by rw [bne_iff_ne]; exact hc
  clear hc
  have HK := Lib.hid hk
  have HK' := Lib.hid hk'
  clear hk hk'
  have I := SmI.new h h'
  clear h h'
  go_enter Try.func22, Try.ntmps22
  go_upto_region 1 with fail
  generalize (w.alloc (.cells #[.int .i64 r.k, .int .i64 r.n, .bool r.g, .slice r.A r.ln r.lc, .int .u64 r.u, .string r.s, .slice r.B r.m r.d] 28)).alloc (.cells #[.int .i64 r'.k, .int .i64 r'.n, .bool r'.g, .slice r'.A r'.ln r'.lc, .int .u64 r'.u, .string r'.s, .slice r'.B r'.m r'.d] 28) = W at *
  go_cut [11] (fun x wx => x = .bool (cls r.k != cls r'.k) ∧ SmI w r t r' t' wx)
  case first =>
    have E := I.drew
    obtain ⟨y0, y1, y2, y3, y4, y5, y6⟩ := seven' I.bx.at
    obtain ⟨x0, x1, x2, x3, x4, x5, x6⟩ := seven' I.ix.at
    clear I
    have k1 : True := trivial
    have k2 : True := trivial
    go_region_held3 (fun w' => w'.cell? ⟨w.heap.size, 0, none⟩ = some (.int .i64 r.k) ∧ w'.cell? ⟨w.heap.size, 1, none⟩ = some (.int .i64 r.n) ∧ w'.cell? ⟨w.heap.size, 2, none⟩ = some (.bool r.g) ∧ w'.cell? ⟨w.heap.size, 3, none⟩ = some (.slice r.A r.ln r.lc) ∧ w'.cell? ⟨w.heap.size, 4, none⟩ = some (.int .u64 r.u) ∧ w'.cell? ⟨w.heap.size, 5, none⟩ = some (.string r.s) ∧ w'.cell? ⟨w.heap.size, 6, none⟩ = some (.slice r.B r.m r.d) ∧ w'.cell? ⟨w.heap.size + 1, 0, none⟩ = some (.int .i64 r'.k) ∧ w'.cell? ⟨w.heap.size + 1, 1, none⟩ = some (.int .i64 r'.n) ∧ w'.cell? ⟨w.heap.size + 1, 2, none⟩ = some (.bool r'.g) ∧ w'.cell? ⟨w.heap.size + 1, 3, none⟩ = some (.slice r'.A r'.ln r'.lc) ∧ w'.cell? ⟨w.heap.size + 1, 4, none⟩ = some (.int .u64 r'.u) ∧ w'.cell? ⟨w.heap.size + 1, 5, none⟩ = some (.string r'.s) ∧ w'.cell? ⟨w.heap.size + 1, 6, none⟩ = some (.slice r'.B r'.m r'.d))
      (first | exact ⟨y0, y1, y2, y3, y4, y5, y6, x0, x1, x2, x3, x4, x5, x6⟩ | exact ⟨E.bx.at.c0, E.bx.at.c1, E.bx.at.c2, E.bx.at.c3, E.bx.at.c4, E.bx.at.c5, E.bx.at.c6, E.ix.at.c0, E.ix.at.c1, E.ix.at.c2, E.ix.at.c3, E.ix.at.c4, E.ix.at.c5, E.ix.at.c6⟩)
      (first
        | (go_at_call 39; clear k1; have E' := E; clear E; refine (refClass_any _ r HK.out).mono ?_; rintro e v ⟨rfl, hv⟩; have E := E'.below hv; clear E' hv)
        | (go_at_call 39; clear k2; have E' := E; clear E; refine (refClass_any _ r' HK'.out).mono ?_; rintro e v ⟨rfl, hv⟩; have E := E'.below hv; clear E' hv))
    go_wp2_with fail
    go_meet
    exact ⟨by rw [hd], E⟩
  clear I
  obtain ⟨rfl, J⟩ := hcut
  rw [hd]
  clear hd
  go_upto_region 2 with fail
  have E := J.drew
  obtain ⟨y0, y1, y2, y3, y4, y5, y6⟩ := seven' J.bx.at
  obtain ⟨x0, x1, x2, x3, x4, x5, x6⟩ := seven' J.ix.at
  clear J
  have k1 : True := trivial
  have k2 : True := trivial
  go_region_held3 (fun w' => w'.cell? ⟨w.heap.size, 0, none⟩ = some (.int .i64 r.k) ∧ w'.cell? ⟨w.heap.size, 1, none⟩ = some (.int .i64 r.n) ∧ w'.cell? ⟨w.heap.size, 2, none⟩ = some (.bool r.g) ∧ w'.cell? ⟨w.heap.size, 3, none⟩ = some (.slice r.A r.ln r.lc) ∧ w'.cell? ⟨w.heap.size, 4, none⟩ = some (.int .u64 r.u) ∧ w'.cell? ⟨w.heap.size, 5, none⟩ = some (.string r.s) ∧ w'.cell? ⟨w.heap.size, 6, none⟩ = some (.slice r.B r.m r.d) ∧ w'.cell? ⟨w.heap.size + 1, 0, none⟩ = some (.int .i64 r'.k) ∧ w'.cell? ⟨w.heap.size + 1, 1, none⟩ = some (.int .i64 r'.n) ∧ w'.cell? ⟨w.heap.size + 1, 2, none⟩ = some (.bool r'.g) ∧ w'.cell? ⟨w.heap.size + 1, 3, none⟩ = some (.slice r'.A r'.ln r'.lc) ∧ w'.cell? ⟨w.heap.size + 1, 4, none⟩ = some (.int .u64 r'.u) ∧ w'.cell? ⟨w.heap.size + 1, 5, none⟩ = some (.string r'.s) ∧ w'.cell? ⟨w.heap.size + 1, 6, none⟩ = some (.slice r'.B r'.m r'.d))
    (first | exact ⟨y0, y1, y2, y3, y4, y5, y6, x0, x1, x2, x3, x4, x5, x6⟩ | exact ⟨E.bx.at.c0, E.bx.at.c1, E.bx.at.c2, E.bx.at.c3, E.bx.at.c4, E.bx.at.c5, E.bx.at.c6, E.ix.at.c0, E.ix.at.c1, E.ix.at.c2, E.ix.at.c3, E.ix.at.c4, E.ix.at.c5, E.ix.at.c6⟩)
    (first
      | (go_at_call 39; clear k1; have E' := E; clear E; refine (refClass_any _ r HK.out).mono ?_; rintro e v ⟨rfl, hv⟩; have E := E'.below hv; clear E' hv)
      | (go_at_call 39; clear k2; have E' := E; clear E; refine (refClass_any _ r' HK'.out).mono ?_; rintro e v ⟨rfl, hv⟩; have E := E'.below hv; clear E' hv)
      | (go_at_call 40; refine (refSign_any _ _ _).mono ?_; rw [← HR.out]; rintro e v2 ⟨rfl, rfl⟩))
  go_wp2
  go_ret
  exact ⟨rfl, E.be⟩

set_option maxRecDepth 100000 in
set_option maxRecDepth 100000 in
set_option maxHeartbeats 4000000 in
theorem rcmp_k1 (w : World) (r : TR) (t : Tm) (h : TV w r t) (r' : TR) (t' : Tm) (h' : TV w r' t') (hk : r.k = 1 ∨ r.k = 2 ∨ r.k = 3 ∨ r.k = 4 ∨ r.k = 5 ∨ r.k = 6 ∨ r.k = 7 ∨ r.k = 8 ∨ r.k = 9) (hk' : r'.k = 1 ∨ r'.k = 2 ∨ r'.k = 3 ∨ r'.k = 4 ∨ r'.k = 5 ∨ r'.k = 6 ∨ r'.k = 7 ∨ r'.k = 8 ∨ r'.k = 9) (hc : cls r.k = cls r'.k) (hkk : r.k = 1) (ho : t.Ok) (hm : t.mayB = true) (ho' : t'.Ok) (hm' : t'.mayB = true) (hn : t.kind = 1 ∨ t.kind = 2 ∨ t.kind = 3) (hn' : t'.kind = 1 ∨ t'.kind = 2 ∨ t'.kind = 3) :
    Calls Try.prog 22 #[.agg #[.int .i64 r.k, .int .i64 r.n, .bool r.g, .slice r.A r.ln r.lc, .int .u64 r.u, .string r.s, .slice r.B r.m r.d], .agg #[.int .i64 r'.k, .int .i64 r'.n, .bool r'.g, .slice r'.A r'.ln r'.lc, .int .u64 r'.u, .string r'.s, .slice r'.B r'.m r'.d]] w (IntPost w (lex Od.sg t.leafKey t'.leafKey)) := by
  obtain ⟨R, hR⟩ : ∃ R, R = lex Od.sg t.leafKey t'.leafKey := ⟨_, rfl⟩
  rw [← hR]
  have HR := Lib.hid hR
  clear hR
  have hd : (cls r.k != cls r'.k) = false := by rw [hc]; simp
  have e1 : (r.k == 1) = true := by rw [hkk]; rfl
  have e2 : (r.k == 2) = false := by rw [hkk]; rfl
  have e3 : (r.k == 3) = false := by rw [hkk]; rfl
  have e4 : (r.k == 4) = false := by rw [hkk]; rfl
  have e5 : (r.k == 5) = false := by rw [hkk]; rfl
  have e9 : (r.k == 9) = false := by rw [hkk]; rfl
  clear hc hkk
  have HN := Lib.hid hn
  have HN' := Lib.hid hn'
  clear hn hn'
  have HK := Lib.hid hk
  have HK' := Lib.hid hk'
  clear hk hk'
  have I := SmI.new h h'
  clear h h'
  go_enter Try.func22, Try.ntmps22
  go_upto_region 1 with fail
  generalize (w.alloc (.cells #[.int .i64 r.k, .int .i64 r.n, .bool r.g, .slice r.A r.ln r.lc, .int .u64 r.u, .string r.s, .slice r.B r.m r.d] 28)).alloc (.cells #[.int .i64 r'.k, .int .i64 r'.n, .bool r'.g, .slice r'.A r'.ln r'.lc, .int .u64 r'.u, .string r'.s, .slice r'.B r'.m r'.d] 28) = W at *
  go_cut [11] (fun x wx => x = .bool (cls r.k != cls r'.k) ∧ SmI w r t r' t' wx)
  case first =>
    have E := I.drew
    obtain ⟨y0, y1, y2, y3, y4, y5, y6⟩ := seven' I.bx.at
    obtain ⟨x0, x1, x2, x3, x4, x5, x6⟩ := seven' I.ix.at
    clear I
    have k1 : True := trivial
    have k2 : True := trivial
    go_region_held3 (fun w' => w'.cell? ⟨w.heap.size, 0, none⟩ = some (.int .i64 r.k) ∧ w'.cell? ⟨w.heap.size, 1, none⟩ = some (.int .i64 r.n) ∧ w'.cell? ⟨w.heap.size, 2, none⟩ = some (.bool r.g) ∧ w'.cell? ⟨w.heap.size, 3, none⟩ = some (.slice r.A r.ln r.lc) ∧ w'.cell? ⟨w.heap.size, 4, none⟩ = some (.int .u64 r.u) ∧ w'.cell? ⟨w.heap.size, 5, none⟩ = some (.string r.s) ∧ w'.cell? ⟨w.heap.size, 6, none⟩ = some (.slice r.B r.m r.d) ∧ w'.cell? ⟨w.heap.size + 1, 0, none⟩ = some (.int .i64 r'.k) ∧ w'.cell? ⟨w.heap.size + 1, 1, none⟩ = some (.int .i64 r'.n) ∧ w'.cell? ⟨w.heap.size + 1, 2, none⟩ = some (.bool r'.g) ∧ w'.cell? ⟨w.heap.size + 1, 3, none⟩ = some (.slice r'.A r'.ln r'.lc) ∧ w'.cell? ⟨w.heap.size + 1, 4, none⟩ = some (.int .u64 r'.u) ∧ w'.cell? ⟨w.heap.size + 1, 5, none⟩ = some (.string r'.s) ∧ w'.cell? ⟨w.heap.size + 1, 6, none⟩ = some (.slice r'.B r'.m r'.d))
      (first | exact ⟨y0, y1, y2, y3, y4, y5, y6, x0, x1, x2, x3, x4, x5, x6⟩ | exact ⟨E.bx.at.c0, E.bx.at.c1, E.bx.at.c2, E.bx.at.c3, E.bx.at.c4, E.bx.at.c5, E.bx.at.c6, E.ix.at.c0, E.ix.at.c1, E.ix.at.c2, E.ix.at.c3, E.ix.at.c4, E.ix.at.c5, E.ix.at.c6⟩)
      (first
        | (go_at_call 39; clear k1; have E' := E; clear E; refine (refClass_any _ r HK.out).mono ?_; rintro e v ⟨rfl, hv⟩; have E := E'.below hv; clear E' hv)
        | (go_at_call 39; clear k2; have E' := E; clear E; refine (refClass_any _ r' HK'.out).mono ?_; rintro e v ⟨rfl, hv⟩; have E := E'.below hv; clear E' hv))
    go_wp2_with fail
    go_meet
    exact ⟨by rw [hd], E⟩
  clear I
  obtain ⟨rfl, J⟩ := hcut
  rw [hd]
  clear hd
  obtain ⟨y0, y1, y2, y3, y4, y5, y6⟩ := seven' J.bx.at
  obtain ⟨x0, x1, x2, x3, x4, x5, x6⟩ := seven' J.ix.at
  go_wp2_with fail
  refine (rnums_any wc r t J.tv ho hm r' t' J.tw ho' hm' HN.out HN'.out).mono ?_
  rw [← HR.out]
  rintro _ v ⟨rfl, hv⟩
  go_wp2
  go_ret
  exact ⟨rfl, J.be.trans (hv.mono J.be.size)⟩

set_option maxRecDepth 100000 in
set_option maxRecDepth 100000 in
set_option maxHeartbeats 4000000 in
theorem rcmp_k2 (w : World) (r : TR) (t : Tm) (h : TV w r t) (r' : TR) (t' : Tm) (h' : TV w r' t') (hk : r.k = 1 ∨ r.k = 2 ∨ r.k = 3 ∨ r.k = 4 ∨ r.k = 5 ∨ r.k = 6 ∨ r.k = 7 ∨ r.k = 8 ∨ r.k = 9) (hk' : r'.k = 1 ∨ r'.k = 2 ∨ r'.k = 3 ∨ r'.k = 4 ∨ r'.k = 5 ∨ r'.k = 6 ∨ r'.k = 7 ∨ r'.k = 8 ∨ r'.k = 9) (hc : cls r.k = cls r'.k) (hkk : r.k = 2) (ho : t.Ok) (hm : t.mayB = true) (ho' : t'.Ok) (hm' : t'.mayB = true) (hn : t.kind = 1 ∨ t.kind = 2 ∨ t.kind = 3) (hn' : t'.kind = 1 ∨ t'.kind = 2 ∨ t'.kind = 3) :
    Calls Try.prog 22 #[.agg #[.int .i64 r.k, .int .i64 r.n, .bool r.g, .slice r.A r.ln r.lc, .int .u64 r.u, .string r.s, .slice r.B r.m r.d], .agg #[.int .i64 r'.k, .int .i64 r'.n, .bool r'.g, .slice r'.A r'.ln r'.lc, .int .u64 r'.u, .string r'.s, .slice r'.B r'.m r'.d]] w (IntPost w (lex Od.sg t.leafKey t'.leafKey)) := by
  obtain ⟨R, hR⟩ : ∃ R, R = lex Od.sg t.leafKey t'.leafKey := ⟨_, rfl⟩
  rw [← hR]
  have HR := Lib.hid hR
  clear hR
  have hd : (cls r.k != cls r'.k) = false := by rw [hc]; simp
  have e1 : (r.k == 1) = false := by rw [hkk]; rfl
  have e2 : (r.k == 2) = true := by rw [hkk]; rfl
  have e3 : (r.k == 3) = false := by rw [hkk]; rfl
  have e4 : (r.k == 4) = false := by rw [hkk]; rfl
  have e5 : (r.k == 5) = false := by rw [hkk]; rfl
  have e9 : (r.k == 9) = false := by rw [hkk]; rfl
  clear hc hkk
  have HN := Lib.hid hn
  have HN' := Lib.hid hn'
  clear hn hn'
  have HK := Lib.hid hk
  have HK' := Lib.hid hk'
  clear hk hk'
  have I := SmI.new h h'
  clear h h'
  go_enter Try.func22, Try.ntmps22
  go_upto_region 1 with fail
  generalize (w.alloc (.cells #[.int .i64 r.k, .int .i64 r.n, .bool r.g, .slice r.A r.ln r.lc, .int .u64 r.u, .string r.s, .slice r.B r.m r.d] 28)).alloc (.cells #[.int .i64 r'.k, .int .i64 r'.n, .bool r'.g, .slice r'.A r'.ln r'.lc, .int .u64 r'.u, .string r'.s, .slice r'.B r'.m r'.d] 28) = W at *
  go_cut [11] (fun x wx => x = .bool (cls r.k != cls r'.k) ∧ SmI w r t r' t' wx)
  case first =>
    have E := I.drew
    obtain ⟨y0, y1, y2, y3, y4, y5, y6⟩ := seven' I.bx.at
    obtain ⟨x0, x1, x2, x3, x4, x5, x6⟩ := seven' I.ix.at
    clear I
    have k1 : True := trivial
    have k2 : True := trivial
    go_region_held3 (fun w' => w'.cell? ⟨w.heap.size, 0, none⟩ = some (.int .i64 r.k) ∧ w'.cell? ⟨w.heap.size, 1, none⟩ = some (.int .i64 r.n) ∧ w'.cell? ⟨w.heap.size, 2, none⟩ = some (.bool r.g) ∧ w'.cell? ⟨w.heap.size, 3, none⟩ = some (.slice r.A r.ln r.lc) ∧ w'.cell? ⟨w.heap.size, 4, none⟩ = some (.int .u64 r.u) ∧ w'.cell? ⟨w.heap.size, 5, none⟩ = some (.string r.s) ∧ w'.cell? ⟨w.heap.size, 6, none⟩ = some (.slice r.B r.m r.d) ∧ w'.cell? ⟨w.heap.size + 1, 0, none⟩ = some (.int .i64 r'.k) ∧ w'.cell? ⟨w.heap.size + 1, 1, none⟩ = some (.int .i64 r'.n) ∧ w'.cell? ⟨w.heap.size + 1, 2, none⟩ = some (.bool r'.g) ∧ w'.cell? ⟨w.heap.size + 1, 3, none⟩ = some (.slice r'.A r'.ln r'.lc) ∧ w'.cell? ⟨w.heap.size + 1, 4, none⟩ = some (.int .u64 r'.u) ∧ w'.cell? ⟨w.heap.size + 1, 5, none⟩ = some (.string r'.s) ∧ w'.cell? ⟨w.heap.size + 1, 6, none⟩ = some (.slice r'.B r'.m r'.d))
      (first | exact ⟨y0, y1, y2, y3, y4, y5, y6, x0, x1, x2, x3, x4, x5, x6⟩ | exact ⟨E.bx.at.c0, E.bx.at.c1, E.bx.at.c2, E.bx.at.c3, E.bx.at.c4, E.bx.at.c5, E.bx.at.c6, E.ix.at.c0, E.ix.at.c1, E.ix.at.c2, E.ix.at.c3, E.ix.at.c4, E.ix.at.c5, E.ix.at.c6⟩)
      (first
        | (go_at_call 39; clear k1; have E' := E; clear E; refine (refClass_any _ r HK.out).mono ?_; rintro e v ⟨rfl, hv⟩; have E := E'.below hv; clear E' hv)
        | (go_at_call 39; clear k2; have E' := E; clear E; refine (refClass_any _ r' HK'.out).mono ?_; rintro e v ⟨rfl, hv⟩; have E := E'.below hv; clear E' hv))
    go_wp2_with fail
    go_meet
    exact ⟨by rw [hd], E⟩
  clear I
  obtain ⟨rfl, J⟩ := hcut
  rw [hd]
  clear hd
  obtain ⟨y0, y1, y2, y3, y4, y5, y6⟩ := seven' J.bx.at
  obtain ⟨x0, x1, x2, x3, x4, x5, x6⟩ := seven' J.ix.at
  go_wp2_with fail
  refine (rnums_any wc r t J.tv ho hm r' t' J.tw ho' hm' HN.out HN'.out).mono ?_
  rw [← HR.out]
  rintro _ v ⟨rfl, hv⟩
  go_wp2
  go_ret
  exact ⟨rfl, J.be.trans (hv.mono J.be.size)⟩

set_option maxRecDepth 100000 in
set_option maxRecDepth 100000 in
set_option maxHeartbeats 4000000 in
theorem rcmp_k3 (w : World) (r : TR) (t : Tm) (h : TV w r t) (r' : TR) (t' : Tm) (h' : TV w r' t') (hk : r.k = 1 ∨ r.k = 2 ∨ r.k = 3 ∨ r.k = 4 ∨ r.k = 5 ∨ r.k = 6 ∨ r.k = 7 ∨ r.k = 8 ∨ r.k = 9) (hk' : r'.k = 1 ∨ r'.k = 2 ∨ r'.k = 3 ∨ r'.k = 4 ∨ r'.k = 5 ∨ r'.k = 6 ∨ r'.k = 7 ∨ r'.k = 8 ∨ r'.k = 9) (hc : cls r.k = cls r'.k) (hkk : r.k = 3) (ho : t.Ok) (hm : t.mayB = true) (ho' : t'.Ok) (hm' : t'.mayB = true) (hn : t.kind = 1 ∨ t.kind = 2 ∨ t.kind = 3) (hn' : t'.kind = 1 ∨ t'.kind = 2 ∨ t'.kind = 3) :
    Calls Try.prog 22 #[.agg #[.int .i64 r.k, .int .i64 r.n, .bool r.g, .slice r.A r.ln r.lc, .int .u64 r.u, .string r.s, .slice r.B r.m r.d], .agg #[.int .i64 r'.k, .int .i64 r'.n, .bool r'.g, .slice r'.A r'.ln r'.lc, .int .u64 r'.u, .string r'.s, .slice r'.B r'.m r'.d]] w (IntPost w (lex Od.sg t.leafKey t'.leafKey)) := by
  obtain ⟨R, hR⟩ : ∃ R, R = lex Od.sg t.leafKey t'.leafKey := ⟨_, rfl⟩
  rw [← hR]
  have HR := Lib.hid hR
  clear hR
  have hd : (cls r.k != cls r'.k) = false := by rw [hc]; simp
  have e1 : (r.k == 1) = false := by rw [hkk]; rfl
  have e2 : (r.k == 2) = false := by rw [hkk]; rfl
  have e3 : (r.k == 3) = true := by rw [hkk]; rfl
  have e4 : (r.k == 4) = false := by rw [hkk]; rfl
  have e5 : (r.k == 5) = false := by rw [hkk]; rfl
  have e9 : (r.k == 9) = false := by rw [hkk]; rfl
  clear hc hkk
  have HN := Lib.hid hn
  have HN' := Lib.hid hn'
  clear hn hn'
  have HK := Lib.hid hk
  have HK' := Lib.hid hk'
  clear hk hk'
  have I := SmI.new h h'
  clear h h'
  go_enter Try.func22, Try.ntmps22
  go_upto_region 1 with fail
  generalize (w.alloc (.cells #[.int .i64 r.k, .int .i64 r.n, .bool r.g, .slice r.A r.ln r.lc, .int .u64 r.u, .string r.s, .slice r.B r.m r.d] 28)).alloc (.cells #[.int .i64 r'.k, .int .i64 r'.n, .bool r'.g, .slice r'.A r'.ln r'.lc, .int .u64 r'.u, .string r'.s, .slice r'.B r'.m r'.d] 28) = W at *
  go_cut [11] (fun x wx => x = .bool (cls r.k != cls r'.k) ∧ SmI w r t r' t' wx)
  case first =>
    have E := I.drew
    obtain ⟨y0, y1, y2, y3, y4, y5, y6⟩ := seven' I.bx.at
    obtain ⟨x0, x1, x2, x3, x4, x5, x6⟩ := seven' I.ix.at
    clear I
    have k1 : True := trivial
    have k2 : True := trivial
    go_region_held3 (fun w' => w'.cell? ⟨w.heap.size, 0, none⟩ = some (.int .i64 r.k) ∧ w'.cell? ⟨w.heap.size, 1, none⟩ = some (.int .i64 r.n) ∧ w'.cell? ⟨w.heap.size, 2, none⟩ = some (.bool r.g) ∧ w'.cell? ⟨w.heap.size, 3, none⟩ = some (.slice r.A r.ln r.lc) ∧ w'.cell? ⟨w.heap.size, 4, none⟩ = some (.int .u64 r.u) ∧ w'.cell? ⟨w.heap.size, 5, none⟩ = some (.string r.s) ∧ w'.cell? ⟨w.heap.size, 6, none⟩ = some (.slice r.B r.m r.d) ∧ w'.cell? ⟨w.heap.size + 1, 0, none⟩ = some (.int .i64 r'.k) ∧ w'.cell? ⟨w.heap.size + 1, 1, none⟩ = some (.int .i64 r'.n) ∧ w'.cell? ⟨w.heap.size + 1, 2, none⟩ = some (.bool r'.g) ∧ w'.cell? ⟨w.heap.size + 1, 3, none⟩ = some (.slice r'.A r'.ln r'.lc) ∧ w'.cell? ⟨w.heap.size + 1, 4, none⟩ = some (.int .u64 r'.u) ∧ w'.cell? ⟨w.heap.size + 1, 5, none⟩ = some (.string r'.s) ∧ w'.cell? ⟨w.heap.size + 1, 6, none⟩ = some (.slice r'.B r'.m r'.d))
      (first | exact ⟨y0, y1, y2, y3, y4, y5, y6, x0, x1, x2, x3, x4, x5, x6⟩ | exact ⟨E.bx.at.c0, E.bx.at.c1, E.bx.at.c2, E.bx.at.c3, E.bx.at.c4, E.bx.at.c5, E.bx.at.c6, E.ix.at.c0, E.ix.at.c1, E.ix.at.c2, E.ix.at.c3, E.ix.at.c4, E.ix.at.c5, E.ix.at.c6⟩)
      (first
        | (go_at_call 39; clear k1; have E' := E; clear E; refine (refClass_any _ r HK.out).mono ?_; rintro e v ⟨rfl, hv⟩; have E := E'.below hv; clear E' hv)
        | (go_at_call 39; clear k2; have E' := E; clear E; refine (refClass_any _ r' HK'.out).mono ?_; rintro e v ⟨rfl, hv⟩; have E := E'.below hv; clear E' hv))
    go_wp2_with fail
    go_meet
    exact ⟨by rw [hd], E⟩
  clear I
  obtain ⟨rfl, J⟩ := hcut
  rw [hd]
  clear hd
  obtain ⟨y0, y1, y2, y3, y4, y5, y6⟩ := seven' J.bx.at
  obtain ⟨x0, x1, x2, x3, x4, x5, x6⟩ := seven' J.ix.at
  go_wp2_with fail
  refine (rnums_any wc r t J.tv ho hm r' t' J.tw ho' hm' HN.out HN'.out).mono ?_
  rw [← HR.out]
  rintro _ v ⟨rfl, hv⟩
  go_wp2
  go_ret
  exact ⟨rfl, J.be.trans (hv.mono J.be.size)⟩

set_option maxRecDepth 100000 in
set_option maxRecDepth 100000 in
set_option maxHeartbeats 4000000 in
theorem rcmp_k4 (w : World) (r : TR) (t : Tm) (h : TV w r t) (r' : TR) (t' : Tm) (h' : TV w r' t') (hk : r.k = 1 ∨ r.k = 2 ∨ r.k = 3 ∨ r.k = 4 ∨ r.k = 5 ∨ r.k = 6 ∨ r.k = 7 ∨ r.k = 8 ∨ r.k = 9) (hk' : r'.k = 1 ∨ r'.k = 2 ∨ r'.k = 3 ∨ r'.k = 4 ∨ r'.k = 5 ∨ r'.k = 6 ∨ r'.k = 7 ∨ r'.k = 8 ∨ r'.k = 9) (hc : cls r.k = cls r'.k) (hkk : r.k = 4) :
    Calls Try.prog 22 #[.agg #[.int .i64 r.k, .int .i64 r.n, .bool r.g, .slice r.A r.ln r.lc, .int .u64 r.u, .string r.s, .slice r.B r.m r.d], .agg #[.int .i64 r'.k, .int .i64 r'.n, .bool r'.g, .slice r'.A r'.ln r'.lc, .int .u64 r'.u, .string r'.s, .slice r'.B r'.m r'.d]] w (IntPost w (Od.sg r.n r'.n)) := by
  obtain ⟨R, hR⟩ : ∃ R, R = Od.sg r.n r'.n := ⟨_, rfl⟩
  rw [← hR]
  have HR := Lib.hid hR
  clear hR
  have hd : (cls r.k != cls r'.k) = false := by rw [hc]; simp
  have e1 : (r.k == 1) = false := by rw [hkk]; rfl
  have e2 : (r.k == 2) = false := by rw [hkk]; rfl
  have e3 : (r.k == 3) = false := by rw [hkk]; rfl
  have e4 : (r.k == 4) = true := by rw [hkk]; rfl
  have e5 : (r.k == 5) = false := by rw [hkk]; rfl
  have e9 : (r.k == 9) = false := by rw [hkk]; rfl
  clear hc hkk
  have HK := Lib.hid hk
  have HK' := Lib.hid hk'
  clear hk hk'
  have I := SmI.new h h'
  clear h h'
  go_enter Try.func22, Try.ntmps22
  go_upto_region 1 with fail
  generalize (w.alloc (.cells #[.int .i64 r.k, .int .i64 r.n, .bool r.g, .slice r.A r.ln r.lc, .int .u64 r.u, .string r.s, .slice r.B r.m r.d] 28)).alloc (.cells #[.int .i64 r'.k, .int .i64 r'.n, .bool r'.g, .slice r'.A r'.ln r'.lc, .int .u64 r'.u, .string r'.s, .slice r'.B r'.m r'.d] 28) = W at *
  go_cut [11] (fun x wx => x = .bool (cls r.k != cls r'.k) ∧ SmI w r t r' t' wx)
  case first =>
    have E := I.drew
    obtain ⟨y0, y1, y2, y3, y4, y5, y6⟩ := seven' I.bx.at
    obtain ⟨x0, x1, x2, x3, x4, x5, x6⟩ := seven' I.ix.at
    clear I
    have k1 : True := trivial
    have k2 : True := trivial
    go_region_held3 (fun w' => w'.cell? ⟨w.heap.size, 0, none⟩ = some (.int .i64 r.k) ∧ w'.cell? ⟨w.heap.size, 1, none⟩ = some (.int .i64 r.n) ∧ w'.cell? ⟨w.heap.size, 2, none⟩ = some (.bool r.g) ∧ w'.cell? ⟨w.heap.size, 3, none⟩ = some (.slice r.A r.ln r.lc) ∧ w'.cell? ⟨w.heap.size, 4, none⟩ = some (.int .u64 r.u) ∧ w'.cell? ⟨w.heap.size, 5, none⟩ = some (.string r.s) ∧ w'.cell? ⟨w.heap.size, 6, none⟩ = some (.slice r.B r.m r.d) ∧ w'.cell? ⟨w.heap.size + 1, 0, none⟩ = some (.int .i64 r'.k) ∧ w'.cell? ⟨w.heap.size + 1, 1, none⟩ = some (.int .i64 r'.n) ∧ w'.cell? ⟨w.heap.size + 1, 2, none⟩ = some (.bool r'.g) ∧ w'.cell? ⟨w.heap.size + 1, 3, none⟩ = some (.slice r'.A r'.ln r'.lc) ∧ w'.cell? ⟨w.heap.size + 1, 4, none⟩ = some (.int .u64 r'.u) ∧ w'.cell? ⟨w.heap.size + 1, 5, none⟩ = some (.string r'.s) ∧ w'.cell? ⟨w.heap.size + 1, 6, none⟩ = some (.slice r'.B r'.m r'.d))
      (first | exact ⟨y0, y1, y2, y3, y4, y5, y6, x0, x1, x2, x3, x4, x5, x6⟩ | exact ⟨E.bx.at.c0, E.bx.at.c1, E.bx.at.c2, E.bx.at.c3, E.bx.at.c4, E.bx.at.c5, E.bx.at.c6, E.ix.at.c0, E.ix.at.c1, E.ix.at.c2, E.ix.at.c3, E.ix.at.c4, E.ix.at.c5, E.ix.at.c6⟩)
      (first
        | (go_at_call 39; clear k1; have E' := E; clear E; refine (refClass_any _ r HK.out).mono ?_; rintro e v ⟨rfl, hv⟩; have E := E'.below hv; clear E' hv)
        | (go_at_call 39; clear k2; have E' := E; clear E; refine (refClass_any _ r' HK'.out).mono ?_; rintro e v ⟨rfl, hv⟩; have E := E'.below hv; clear E' hv))
    go_wp2_with fail
    go_meet
    exact ⟨by rw [hd], E⟩
  clear I
  obtain ⟨rfl, J⟩ := hcut
  rw [hd]
  clear hd
  obtain ⟨y0, y1, y2, y3, y4, y5, y6⟩ := seven' J.bx.at
  obtain ⟨x0, x1, x2, x3, x4, x5, x6⟩ := seven' J.ix.at
  go_wp2_with fail
  refine (refSign_any _ _ wc).mono ?_
  rw [← HR.out]
  rintro _ v ⟨rfl, rfl⟩
  go_wp2
  go_ret
  exact ⟨rfl, J.be⟩

set_option maxRecDepth 100000 in
set_option maxRecDepth 100000 in
set_option maxHeartbeats 4000000 in
theorem rcmp_k5 (w : World) (r : TR) (t : Tm) (h : TV w r t) (r' : TR) (t' : Tm) (h' : TV w r' t') (hk : r.k = 1 ∨ r.k = 2 ∨ r.k = 3 ∨ r.k = 4 ∨ r.k = 5 ∨ r.k = 6 ∨ r.k = 7 ∨ r.k = 8 ∨ r.k = 9) (hk' : r'.k = 1 ∨ r'.k = 2 ∨ r'.k = 3 ∨ r'.k = 4 ∨ r'.k = 5 ∨ r'.k = 6 ∨ r'.k = 7 ∨ r'.k = 8 ∨ r'.k = 9) (hc : cls r.k = cls r'.k) (hkk : r.k = 5) :
    Calls Try.prog 22 #[.agg #[.int .i64 r.k, .int .i64 r.n, .bool r.g, .slice r.A r.ln r.lc, .int .u64 r.u, .string r.s, .slice r.B r.m r.d], .agg #[.int .i64 r'.k, .int .i64 r'.n, .bool r'.g, .slice r'.A r'.ln r'.lc, .int .u64 r'.u, .string r'.s, .slice r'.B r'.m r'.d]] w (IntPost w (Od.sg r.n r'.n)) := by
  obtain ⟨R, hR⟩ : ∃ R, R = Od.sg r.n r'.n := ⟨_, rfl⟩
  rw [← hR]
  have HR := Lib.hid hR
  clear hR
  have hd : (cls r.k != cls r'.k) = false := by rw [hc]; simp
  have e1 : (r.k == 1) = false := by rw [hkk]; rfl
  have e2 : (r.k == 2) = false := by rw [hkk]; rfl
  have e3 : (r.k == 3) = false := by rw [hkk]; rfl
  have e4 : (r.k == 4) = false := by rw [hkk]; rfl
  have e5 : (r.k == 5) = true := by rw [hkk]; rfl
  have e9 : (r.k == 9) = false := by rw [hkk]; rfl
  clear hc hkk
  have HK := Lib.hid hk
  have HK' := Lib.hid hk'
  clear hk hk'
  have I := SmI.new h h'
  clear h h'
  go_enter Try.func22, Try.ntmps22
  go_upto_region 1 with fail
  generalize (w.alloc (.cells #[.int .i64 r.k, .int .i64 r.n, .bool r.g, .slice r.A r.ln r.lc, .int .u64 r.u, .string r.s, .slice r.B r.m r.d] 28)).alloc (.cells #[.int .i64 r'.k, .int .i64 r'.n, .bool r'.g, .slice r'.A r'.ln r'.lc, .int .u64 r'.u, .string r'.s, .slice r'.B r'.m r'.d] 28) = W at *
  go_cut [11] (fun x wx => x = .bool (cls r.k != cls r'.k) ∧ SmI w r t r' t' wx)
  case first =>
    have E := I.drew
    obtain ⟨y0, y1, y2, y3, y4, y5, y6⟩ := seven' I.bx.at
    obtain ⟨x0, x1, x2, x3, x4, x5, x6⟩ := seven' I.ix.at
    clear I
    have k1 : True := trivial
    have k2 : True := trivial
    go_region_held3 (fun w' => w'.cell? ⟨w.heap.size, 0, none⟩ = some (.int .i64 r.k) ∧ w'.cell? ⟨w.heap.size, 1, none⟩ = some (.int .i64 r.n) ∧ w'.cell? ⟨w.heap.size, 2, none⟩ = some (.bool r.g) ∧ w'.cell? ⟨w.heap.size, 3, none⟩ = some (.slice r.A r.ln r.lc) ∧ w'.cell? ⟨w.heap.size, 4, none⟩ = some (.int .u64 r.u) ∧ w'.cell? ⟨w.heap.size, 5, none⟩ = some (.string r.s) ∧ w'.cell? ⟨w.heap.size, 6, none⟩ = some (.slice r.B r.m r.d) ∧ w'.cell? ⟨w.heap.size + 1, 0, none⟩ = some (.int .i64 r'.k) ∧ w'.cell? ⟨w.heap.size + 1, 1, none⟩ = some (.int .i64 r'.n) ∧ w'.cell? ⟨w.heap.size + 1, 2, none⟩ = some (.bool r'.g) ∧ w'.cell? ⟨w.heap.size + 1, 3, none⟩ = some (.slice r'.A r'.ln r'.lc) ∧ w'.cell? ⟨w.heap.size + 1, 4, none⟩ = some (.int .u64 r'.u) ∧ w'.cell? ⟨w.heap.size + 1, 5, none⟩ = some (.string r'.s) ∧ w'.cell? ⟨w.heap.size + 1, 6, none⟩ = some (.slice r'.B r'.m r'.d))
      (first | exact ⟨y0, y1, y2, y3, y4, y5, y6, x0, x1, x2, x3, x4, x5, x6⟩ | exact ⟨E.bx.at.c0, E.bx.at.c1, E.bx.at.c2, E.bx.at.c3, E.bx.at.c4, E.bx.at.c5, E.bx.at.c6, E.ix.at.c0, E.ix.at.c1, E.ix.at.c2, E.ix.at.c3, E.ix.at.c4, E.ix.at.c5, E.ix.at.c6⟩)
      (first
        | (go_at_call 39; clear k1; have E' := E; clear E; refine (refClass_any _ r HK.out).mono ?_; rintro e v ⟨rfl, hv⟩; have E := E'.below hv; clear E' hv)
        | (go_at_call 39; clear k2; have E' := E; clear E; refine (refClass_any _ r' HK'.out).mono ?_; rintro e v ⟨rfl, hv⟩; have E := E'.below hv; clear E' hv))
    go_wp2_with fail
    go_meet
    exact ⟨by rw [hd], E⟩
  clear I
  obtain ⟨rfl, J⟩ := hcut
  rw [hd]
  clear hd
  obtain ⟨y0, y1, y2, y3, y4, y5, y6⟩ := seven' J.bx.at
  obtain ⟨x0, x1, x2, x3, x4, x5, x6⟩ := seven' J.ix.at
  go_wp2_with fail
  refine (refSign_any _ _ wc).mono ?_
  rw [← HR.out]
  rintro _ v ⟨rfl, rfl⟩
  go_wp2
  go_ret
  exact ⟨rfl, J.be⟩

set_option maxRecDepth 100000 in
set_option maxRecDepth 100000 in
set_option maxHeartbeats 4000000 in
theorem rcmp_k9 (w : World) (r : TR) (t : Tm) (h : TV w r t) (r' : TR) (t' : Tm) (h' : TV w r' t') (hk : r.k = 1 ∨ r.k = 2 ∨ r.k = 3 ∨ r.k = 4 ∨ r.k = 5 ∨ r.k = 6 ∨ r.k = 7 ∨ r.k = 8 ∨ r.k = 9) (hk' : r'.k = 1 ∨ r'.k = 2 ∨ r'.k = 3 ∨ r'.k = 4 ∨ r'.k = 5 ∨ r'.k = 6 ∨ r'.k = 7 ∨ r'.k = 8 ∨ r'.k = 9) (hc : cls r.k = cls r'.k) (hkk : r.k = 9) :
    Calls Try.prog 22 #[.agg #[.int .i64 r.k, .int .i64 r.n, .bool r.g, .slice r.A r.ln r.lc, .int .u64 r.u, .string r.s, .slice r.B r.m r.d], .agg #[.int .i64 r'.k, .int .i64 r'.n, .bool r'.g, .slice r'.A r'.ln r'.lc, .int .u64 r'.u, .string r'.s, .slice r'.B r'.m r'.d]] w (IntPost w (cmpS r.s r'.s)) := by
  obtain ⟨R, hR⟩ : ∃ R, R = cmpS r.s r'.s := ⟨_, rfl⟩
  rw [← hR]
  have HR := Lib.hid hR
  clear hR
  have hd : (cls r.k != cls r'.k) = false := by rw [hc]; simp
  have e1 : (r.k == 1) = false := by rw [hkk]; rfl
  have e2 : (r.k == 2) = false := by rw [hkk]; rfl
  have e3 : (r.k == 3) = false := by rw [hkk]; rfl
  have e4 : (r.k == 4) = false := by rw [hkk]; rfl
  have e5 : (r.k == 5) = false := by rw [hkk]; rfl
  have e9 : (r.k == 9) = true := by rw [hkk]; rfl
  clear hc hkk
  have HK := Lib.hid hk
  have HK' := Lib.hid hk'
  clear hk hk'
  have I := SmI.new h h'
  clear h h'
  go_enter Try.func22, Try.ntmps22
  go_upto_region 1 with fail
  generalize (w.alloc (.cells #[.int .i64 r.k, .int .i64 r.n, .bool r.g, .slice r.A r.ln r.lc, .int .u64 r.u, .string r.s, .slice r.B r.m r.d] 28)).alloc (.cells #[.int .i64 r'.k, .int .i64 r'.n, .bool r'.g, .slice r'.A r'.ln r'.lc, .int .u64 r'.u, .string r'.s, .slice r'.B r'.m r'.d] 28) = W at *
  go_cut [11] (fun x wx => x = .bool (cls r.k != cls r'.k) ∧ SmI w r t r' t' wx)
  case first =>
    have E := I.drew
    obtain ⟨y0, y1, y2, y3, y4, y5, y6⟩ := seven' I.bx.at
    obtain ⟨x0, x1, x2, x3, x4, x5, x6⟩ := seven' I.ix.at
    clear I
    have k1 : True := trivial
    have k2 : True := trivial
    go_region_held3 (fun w' => w'.cell? ⟨w.heap.size, 0, none⟩ = some (.int .i64 r.k) ∧ w'.cell? ⟨w.heap.size, 1, none⟩ = some (.int .i64 r.n) ∧ w'.cell? ⟨w.heap.size, 2, none⟩ = some (.bool r.g) ∧ w'.cell? ⟨w.heap.size, 3, none⟩ = some (.slice r.A r.ln r.lc) ∧ w'.cell? ⟨w.heap.size, 4, none⟩ = some (.int .u64 r.u) ∧ w'.cell? ⟨w.heap.size, 5, none⟩ = some (.string r.s) ∧ w'.cell? ⟨w.heap.size, 6, none⟩ = some (.slice r.B r.m r.d) ∧ w'.cell? ⟨w.heap.size + 1, 0, none⟩ = some (.int .i64 r'.k) ∧ w'.cell? ⟨w.heap.size + 1, 1, none⟩ = some (.int .i64 r'.n) ∧ w'.cell? ⟨w.heap.size + 1, 2, none⟩ = some (.bool r'.g) ∧ w'.cell? ⟨w.heap.size + 1, 3, none⟩ = some (.slice r'.A r'.ln r'.lc) ∧ w'.cell? ⟨w.heap.size + 1, 4, none⟩ = some (.int .u64 r'.u) ∧ w'.cell? ⟨w.heap.size + 1, 5, none⟩ = some (.string r'.s) ∧ w'.cell? ⟨w.heap.size + 1, 6, none⟩ = some (.slice r'.B r'.m r'.d))
      (first | exact ⟨y0, y1, y2, y3, y4, y5, y6, x0, x1, x2, x3, x4, x5, x6⟩ | exact ⟨E.bx.at.c0, E.bx.at.c1, E.bx.at.c2, E.bx.at.c3, E.bx.at.c4, E.bx.at.c5, E.bx.at.c6, E.ix.at.c0, E.ix.at.c1, E.ix.at.c2, E.ix.at.c3, E.ix.at.c4, E.ix.at.c5, E.ix.at.c6⟩)
      (first
        | (go_at_call 39; clear k1; have E' := E; clear E; refine (refClass_any _ r HK.out).mono ?_; rintro e v ⟨rfl, hv⟩; have E := E'.below hv; clear E' hv)
        | (go_at_call 39; clear k2; have E' := E; clear E; refine (refClass_any _ r' HK'.out).mono ?_; rintro e v ⟨rfl, hv⟩; have E := E'.below hv; clear E' hv))
    go_wp2_with fail
    go_meet
    exact ⟨by rw [hd], E⟩
  clear I
  obtain ⟨rfl, J⟩ := hcut
  rw [hd]
  clear hd
  obtain ⟨y0, y1, y2, y3, y4, y5, y6⟩ := seven' J.bx.at
  obtain ⟨x0, x1, x2, x3, x4, x5, x6⟩ := seven' J.ix.at
  unfold cmpS at HR
  cases h1 : Op.bytesLess r.s.toList r'.s.toList with
  | true =>
    have hfin := Lib.hid (show R = -1 by rw [HR.out, h1]; rfl)
    go_wp2
    go_ret
    exact ⟨by rw [hfin.out]; rfl, J.be⟩
  | false =>
    cases h2 : Op.bytesLess r'.s.toList r.s.toList with
    | true =>
      have hq : (r.s.toList == r'.s.toList) = false := by
        rw [beq_eq_false_iff_ne]
        intro e
        rw [e] at h1 h2
        rw [h1] at h2
        cases h2
      have hfin := Lib.hid (show R = 1 by rw [HR.out, h1, h2]; rfl)
      go_wp2
      go_ret
      exact ⟨by rw [hfin.out]; rfl, J.be⟩
    | false =>
      have hq : (r.s.toList == r'.s.toList) = true := beq_iff_eq.2 (bl_eq h1 h2)
      have hfin := Lib.hid (show R = 0 by rw [HR.out, h1, h2]; rfl)
      go_wp2
      go_ret
      exact ⟨by rw [hfin.out]; rfl, J.be⟩

set_option maxRecDepth 100000 in
set_option maxRecDepth 100000 in
set_option maxHeartbeats 8000000 in
theorem rcmp_args (t : Tm) (ih : ∀ x ∈ t.args, ∀ (w : World) (r : TR) (r' : TR) (x' : Tm), TV w r x → TV w r' x' → x.Ok → x'.Ok → x.mayB = true → x'.mayB = true → Calls Try.prog 22 #[.agg #[.int .i64 r.k, .int .i64 r.n, .bool r.g, .slice r.A r.ln r.lc, .int .u64 r.u, .string r.s, .slice r.B r.m r.d], .agg #[.int .i64 r'.k, .int .i64 r'.n, .bool r'.g, .slice r'.A r'.ln r'.lc, .int .u64 r'.u, .string r'.s, .slice r'.B r'.m r'.d]] w (IntPost w (Tm.cmpT x x')))
    (t' : Tm) (w : World) (r : TR) (h : TV w r t) (r' : TR) (h' : TV w r' t') (hk : r.k = 1 ∨ r.k = 2 ∨ r.k = 3 ∨ r.k = 4 ∨ r.k = 5 ∨ r.k = 6 ∨ r.k = 7 ∨ r.k = 8 ∨ r.k = 9) (hk' : r'.k = 1 ∨ r'.k = 2 ∨ r'.k = 3 ∨ r'.k = 4 ∨ r'.k = 5 ∨ r'.k = 6 ∨ r'.k = 7 ∨ r'.k = 8 ∨ r'.k = 9) (hc : cls r.k = cls r'.k) (hkk : r.k = 6 ∨ r.k = 7 ∨ r.k = 8)
    (hok : ∀ x ∈ t.args, x.Ok) (hok' : ∀ x ∈ t'.args, x.Ok) (hma : ∀ x ∈ t.args, x.mayB = true) (hma' : ∀ x ∈ t'.args, x.mayB = true) :
    Calls Try.prog 22 #[.agg #[.int .i64 r.k, .int .i64 r.n, .bool r.g, .slice r.A r.ln r.lc, .int .u64 r.u, .string r.s, .slice r.B r.m r.d], .agg #[.int .i64 r'.k, .int .i64 r'.n, .bool r'.g, .slice r'.A r'.ln r'.lc, .int .u64 r'.u, .string r'.s, .slice r'.B r'.m r'.d]] w (IntPost w (cmpArgs t.args t'.args)) := by
  obtain ⟨R, hR⟩ : ∃ R, R = cmpArgs t.args t'.args := ⟨_, rfl⟩
  rw [← hR]
  unfold cmpArgs at hR
  rw [h.len, h'.len] at hR
  have HR := Lib.hid hR
  clear hR
  have IH := Lib.hid ih
  have HO := Lib.hid hok
  have HO' := Lib.hid hok'
  have HM := Lib.hid hma
  have HM' := Lib.hid hma'
  clear ih hok hok' hma hma'
  have hd : (cls r.k != cls r'.k) = false := by rw [hc]; simp
  have e1 : (r.k == 1) = false := beq_eq_false_iff_ne.2 (by omega)
  have e2 : (r.k == 2) = false := beq_eq_false_iff_ne.2 (by omega)
  have e3 : (r.k == 3) = false := beq_eq_false_iff_ne.2 (by omega)
  have e4 : (r.k == 4) = false := beq_eq_false_iff_ne.2 (by omega)
  have e5 : (r.k == 5) = false := beq_eq_false_iff_ne.2 (by omega)
  have e9 : (r.k == 9) = false := beq_eq_false_iff_ne.2 (by omega)
  have hml : r.m ≤ maxLen := Nat.le_trans h.args.md h.args.dd
  have hml' : (r.m : Int) ≤ 9223372036854775807 := by unfold maxLen at hml; omega
  clear hc hkk
  have HK := Lib.hid hk
  have HK' := Lib.hid hk'
  clear hk hk'
  have I := SmI.new h h'
  clear h h'
  go_enter Try.func22, Try.ntmps22
  go_upto_region 1 with fail
  generalize (w.alloc (.cells #[.int .i64 r.k, .int .i64 r.n, .bool r.g, .slice r.A r.ln r.lc, .int .u64 r.u, .string r.s, .slice r.B r.m r.d] 28)).alloc (.cells #[.int .i64 r'.k, .int .i64 r'.n, .bool r'.g, .slice r'.A r'.ln r'.lc, .int .u64 r'.u, .string r'.s, .slice r'.B r'.m r'.d] 28) = W at *
  go_cut [11] (fun x wx => x = .bool (cls r.k != cls r'.k) ∧ SmI w r t r' t' wx)
  case first =>
    have E := I.drew
    obtain ⟨y0, y1, y2, y3, y4, y5, y6⟩ := seven' I.bx.at
    obtain ⟨x0, x1, x2, x3, x4, x5, x6⟩ := seven' I.ix.at
    clear I
    have k1 : True := trivial
    have k2 : True := trivial
    go_region_held3 (fun w' => w'.cell? ⟨w.heap.size, 0, none⟩ = some (.int .i64 r.k) ∧ w'.cell? ⟨w.heap.size, 1, none⟩ = some (.int .i64 r.n) ∧ w'.cell? ⟨w.heap.size, 2, none⟩ = some (.bool r.g) ∧ w'.cell? ⟨w.heap.size, 3, none⟩ = some (.slice r.A r.ln r.lc) ∧ w'.cell? ⟨w.heap.size, 4, none⟩ = some (.int .u64 r.u) ∧ w'.cell? ⟨w.heap.size, 5, none⟩ = some (.string r.s) ∧ w'.cell? ⟨w.heap.size, 6, none⟩ = some (.slice r.B r.m r.d) ∧ w'.cell? ⟨w.heap.size + 1, 0, none⟩ = some (.int .i64 r'.k) ∧ w'.cell? ⟨w.heap.size + 1, 1, none⟩ = some (.int .i64 r'.n) ∧ w'.cell? ⟨w.heap.size + 1, 2, none⟩ = some (.bool r'.g) ∧ w'.cell? ⟨w.heap.size + 1, 3, none⟩ = some (.slice r'.A r'.ln r'.lc) ∧ w'.cell? ⟨w.heap.size + 1, 4, none⟩ = some (.int .u64 r'.u) ∧ w'.cell? ⟨w.heap.size + 1, 5, none⟩ = some (.string r'.s) ∧ w'.cell? ⟨w.heap.size + 1, 6, none⟩ = some (.slice r'.B r'.m r'.d))
      (first | exact ⟨y0, y1, y2, y3, y4, y5, y6, x0, x1, x2, x3, x4, x5, x6⟩ | exact ⟨E.bx.at.c0, E.bx.at.c1, E.bx.at.c2, E.bx.at.c3, E.bx.at.c4, E.bx.at.c5, E.bx.at.c6, E.ix.at.c0, E.ix.at.c1, E.ix.at.c2, E.ix.at.c3, E.ix.at.c4, E.ix.at.c5, E.ix.at.c6⟩)
      (first
        | (go_at_call 39; clear k1; have E' := E; clear E; refine (refClass_any _ r HK.out).mono ?_; rintro e v ⟨rfl, hv⟩; have E := E'.below hv; clear E' hv)
        | (go_at_call 39; clear k2; have E' := E; clear E; refine (refClass_any _ r' HK'.out).mono ?_; rintro e v ⟨rfl, hv⟩; have E := E'.below hv; clear E' hv))
    go_wp2_with fail
    go_meet
    exact ⟨by rw [hd], E⟩
  clear I
  obtain ⟨rfl, J⟩ := hcut
  rw [hd]
  clear hd
  obtain ⟨y0, y1, y2, y3, y4, y5, y6⟩ := seven' J.bx.at
  obtain ⟨x0, x1, x2, x3, x4, x5, x6⟩ := seven' J.ix.at
  by_cases hmm : r.m = r'.m
  · have hcase := Lib.hid (show R = lex Tm.cmpT t.args t'.args by rw [HR.out, hmm, sg_self]; rfl)
    have HL := Lib.hid hmm
    have hd1 : ((r.m : Int) != (r'.m : Int)) = false := by rw [hmm]; simp
    clear HR hmm
    go_wp2_with fail
    clear y0 y1 y2 y3 y4 y5 y6 x0 x1 x2 x3 x4 x5 x6
    go_loopw [5] (fun i w' => ∃ j : Nat, j ≤ r.m ∧ i = .int .i64 (j : Int) ∧ Hid (∀ (x : Nat) (a b : Tm), x < j → t.args[x]? = some a → t'.args[x]? = some b → Tm.cmpT a b = 0) ∧ SmI w r t r' t' w') (fun i _ => r.m - (intOf i).toNat)
    case atStart => exact ⟨0, Nat.zero_le _, rfl, Lib.hid (fun x a b h => absurd h (by omega)), J⟩
    case round =>
      obtain ⟨j, hj, rfl, hz, K⟩ := hrel
      clear J
      have x6 : wr.cell? ⟨w.heap.size, 6, none⟩ = some (.slice r.B r.m r.d) := K.bx.at.c6
      by_cases hjm : j < r.m
      · have hd2 : decide ((j : Int) < (r.m : Int)) = true := decide_eq_true (by omega)
        obtain ⟨b, o, ra, ta, e, hlt, h7, het, htv⟩ := K.tv.args.get j hjm
        obtain ⟨b', o', rb, tb, e', hlt', h7', het', htv'⟩ := K.tw.args.get j (by rw [← HL.out]; exact hjm)
        have x6' : wr.cell? ⟨w.heap.size + 1, 6, none⟩ = some (.slice r'.B r'.m r'.d) := K.ix.at.c6
        rw [e] at x6
        rw [e', ← HL.out] at x6'
        clear e e'
        have d0 := h7.c0; have d1 := h7.c1; have d2 := h7.c2; have d3 := h7.c3; have d4 := h7.c4; have d5 := h7.c5; have d6 := h7.c6; have c0 := h7'.c0; have c1 := h7'.c1; have c2 := h7'.c2; have c3 := h7'.c3; have c4 := h7'.c4; have c5 := h7'.c5; have c6 := h7'.c6
        have H7 := Lib.hid h7
        have H7' := Lib.hid h7'
        have HJ := Lib.hid K
        have IA := Lib.hid (IH.out ta (List.mem_of_getElem? het))
        have oka := HO.out ta (List.mem_of_getElem? het)
        have okb := HO'.out tb (List.mem_of_getElem? het')
        have maa := HM.out ta (List.mem_of_getElem? het)
        have mab := HM'.out tb (List.mem_of_getElem? het')
        clear h7 h7' K
        obtain ⟨q, hq⟩ : ∃ q, q = Tm.cmpT ta tb := ⟨_, rfl⟩
        have HQ := Lib.hid hq
        clear hq
        go_wp2_with fail
        go_region_held3 (fun w' => w'.cell? ⟨w.heap.size, 6, none⟩ = some (.slice (some ⟨b, o, none⟩) r.m r.d) ∧ w'.cell? ⟨w.heap.size + 1, 6, none⟩ = some (.slice (some ⟨b', o', none⟩) r.m r'.d) ∧ w'.cell? ⟨b, o + j * 7, none⟩ = some (.int .i64 ra.k) ∧ w'.cell? ⟨b, o + j * 7 + 1, none⟩ = some (.int .i64 ra.n) ∧ w'.cell? ⟨b, o + j * 7 + 2, none⟩ = some (.bool ra.g) ∧ w'.cell? ⟨b, o + j * 7 + 3, none⟩ = some (.slice ra.A ra.ln ra.lc) ∧ w'.cell? ⟨b, o + j * 7 + 4, none⟩ = some (.int .u64 ra.u) ∧ w'.cell? ⟨b, o + j * 7 + 5, none⟩ = some (.string ra.s) ∧ w'.cell? ⟨b, o + j * 7 + 6, none⟩ = some (.slice ra.B ra.m ra.d) ∧ w'.cell? ⟨b', o' + j * 7, none⟩ = some (.int .i64 rb.k) ∧ w'.cell? ⟨b', o' + j * 7 + 1, none⟩ = some (.int .i64 rb.n) ∧ w'.cell? ⟨b', o' + j * 7 + 2, none⟩ = some (.bool rb.g) ∧ w'.cell? ⟨b', o' + j * 7 + 3, none⟩ = some (.slice rb.A rb.ln rb.lc) ∧ w'.cell? ⟨b', o' + j * 7 + 4, none⟩ = some (.int .u64 rb.u) ∧ w'.cell? ⟨b', o' + j * 7 + 5, none⟩ = some (.string rb.s) ∧ w'.cell? ⟨b', o' + j * 7 + 6, none⟩ = some (.slice rb.B rb.m rb.d))
          (first | exact ⟨x6, x6', d0, d1, d2, d3, d4, d5, d6, c0, c1, c2, c3, c4, c5, c6⟩ | exact KS.out)
          (first
            | (go_at_call 22; refine (IA.out wr.drew ra rb tb (by exact htv.bel (Below.refl _ _).drew) (by exact htv'.bel (Below.refl _ _).drew) oka okb maa mab).mono ?_; rw [← HQ.out]; rintro e v ⟨rfl, hv⟩; have J3 := Lib.hid (HJ.out.drew.below hv); have KS := Lib.hid (pairS (W := wr.drew) hv HJ.out.bx.lt HJ.out.ix.lt x6 x6' (H7.out.below (Below.refl _ _).drew hlt) hlt (H7'.out.below (Below.refl _ _).drew hlt') hlt'); clear hv))
        clear x6 x6' d0 d1 d2 d3 d4 d5 d6 c0 c1 c2 c3 c4 c5 c6 KS
        by_cases h0 : q = 0
        · subst h0
          have hst := Lib.hid (show ∀ (x : Nat) (a b : Tm), x < j + 1 → t.args[x]? = some a → t'.args[x]? = some b → Tm.cmpT a b = 0 from fun x a b h1 h2 h3 => by
            by_cases e : x = j
            · subst e
              rw [het] at h2
              rw [het'] at h3
              cases h2
              cases h3
              exact HQ.out.symm
            · exact hz.out x a b (by omega) h2 h3)
          go_wp2_with fail
          go_roundw
          case rel => exact ⟨j + 1, by omega, by go_num, hst, J3.out⟩
          case measure => simp [intOf]; omega
        · have hfi := Lib.hid (show R = q by
            rw [hcase.out, HQ.out]
            rw [HQ.out] at h0
            exact lex_take (fun x u v hx e1 e2 => hz.out x u v hx e1 e2) het het' h0)
          have hd3 : (q != 0) = true := by rw [bne_iff_ne]; exact h0
          clear h0
          go_wp2
          go_ret
          exact ⟨by rw [hfi.out]; rfl, J3.out.be⟩
      · have hd2 : decide ((j : Int) < (r.m : Int)) = false := decide_eq_false (by omega)
        have hfi := Lib.hid (show R = 0 by
          rw [hcase.out]
          refine lex_all ?_ (fun x u v e1 e2 => hz.out x u v ?_ e1 e2)
          · rw [K.tv.len, K.tw.len]; exact HL.out
          · have := (List.getElem?_eq_some_iff.1 e1).1
            rw [K.tv.len] at this
            omega)
        go_wp2
        go_ret
        exact ⟨by rw [hfi.out]; rfl, K.be⟩
  · have hfi := Lib.hid (show R = Od.sg (r.m : Int) (r'.m : Int) by
      rw [HR.out, andC, if_neg]
      rw [sg_eq]
      omega)
    have hd1 : ((r.m : Int) != (r'.m : Int)) = true := by rw [bne_iff_ne]; omega
    clear HR
    go_wp2_with fail
    refine (refSign_any _ _ wc).mono ?_
    rw [← hfi.out]
    rintro _ v ⟨rfl, rfl⟩
    go_wp2
    go_ret
    exact ⟨rfl, J.be⟩
end Go.Proofs.Ytmcfokeibecopaa

namespace Go.Proofs.Ytmcfokeibecopaa
open Go.RowKit
open Od

set_option maxRecDepth 100000 in
theorem wt_kid {t x : Tm} (hk : t.kind = 6 ∨ t.kind = 8) (h : x ∈ t.args) : x.wt ≤ t.wt := by
  have hw := (wt_node hk).1
  have hle : ∀ xs : List Tm, x ∈ xs → x.wt ≤ Tm.wts xs := by
    intro xs
    induction xs with
    | nil => intro h; cases h
    | cons y r ih =>
      intro h
      rcases List.mem_cons.1 h with e | h
      · subst e; simp only [Tm.wts]; omega
      · have := ih h; simp only [Tm.wts]; omega
  have := hle t.args h
  omega
set_option maxRecDepth 100000 in
theorem may_kid {t x : Tm} (hm : t.mayB = true) (h : x ∈ t.args) : x.mayB = true := by
  have hf := Tm.may_form hm
  have hk : t.kind = 6 ∨ t.kind = 8 := Classical.byContradiction fun hn => by
    rw [Tm.form_args hf hn] at h
    cases h
  have h1 := wt_kid hk h
  have h2 := wt_may hm
  exact may_small (by omega) ((Tm.form_bound hf).2 x h)
set_option maxRecDepth 100000 in
theorem rcmp_any (t : Tm) : ∀ (w : World) (r : TR) (r' : TR) (t' : Tm), TV w r t → TV w r' t' → t.Ok → t'.Ok → t.mayB = true → t'.mayB = true → Calls Try.prog 22 #[.agg #[.int .i64 r.k, .int .i64 r.n, .bool r.g, .slice r.A r.ln r.lc, .int .u64 r.u, .string r.s, .slice r.B r.m r.d], .agg #[.int .i64 r'.k, .int .i64 r'.n, .bool r'.g, .slice r'.A r'.ln r'.lc, .int .u64 r'.u, .string r'.s, .slice r'.B r'.m r'.d]] w (IntPost w (Tm.cmpT t t')) := by
  induction t using Tm.ind with
  | h k n g l u s ks ih =>
    obtain ⟨t, ht⟩ : ∃ t, t = Tm.mk k n g l u s ks := ⟨_, rfl⟩
    have hks : t.args = ks := by rw [ht]; rfl
    rw [← hks] at ih
    rw [← ht]
    clear hks ht
    intro w r r' t' h h' ho ho' hm hm'
    have hf := Tm.may_form hm
    have hf' := Tm.may_form hm'
    have kt := h.kind
    have kt' := h'.kind
    have ka := Tm.bound_kind (Tm.form_bound hf).1
    have kb := Tm.bound_kind (Tm.form_bound hf').1
    have ka' := ka
    have kb' := kb
    rw [kt] at ka'
    rw [kt'] at kb'
    by_cases hc : cls r.k = cls r'.k
    · have hc' : cls t.kind = cls t'.kind := by rw [kt, kt']; exact hc
      have hone := cls_one hc' ka kb
      have leaf : ¬ (t.kind = 6 ∨ t.kind = 8) → ¬ (t'.kind = 6 ∨ t'.kind = 8) → Tm.cmpT t t' = lex Od.sg t.leafKey t'.leafKey := fun h1 h2 => cmpT_leaf hc' (Tm.form_args hf h1) (Tm.form_args hf' h2)
      have args : r.k = 6 ∨ r.k = 7 ∨ r.k = 8 → Calls Try.prog 22 #[.agg #[.int .i64 r.k, .int .i64 r.n, .bool r.g, .slice r.A r.ln r.lc, .int .u64 r.u, .string r.s, .slice r.B r.m r.d], .agg #[.int .i64 r'.k, .int .i64 r'.n, .bool r'.g, .slice r'.A r'.ln r'.lc, .int .u64 r'.u, .string r'.s, .slice r'.B r'.m r'.d]] w (IntPost w (cmpArgs t.args t'.args)) := fun e =>
        rcmp_args t ih t' w r h r' h' ka' kb' hc e (fun x hx => Ok.kids ho hx) (fun x hx => Ok.kids ho' hx) (fun x hx => may_kid hm hx) (fun x hx => may_kid hm' hx)
      rcases ka with e | e | e | e | e | e | e | e | e
      · rw [leaf (by omega) (by omega)]
        exact rcmp_k1 w r t h r' t' h' ka' kb' hc (by omega) ho hm ho' hm' (by omega) (by omega)
      · rw [leaf (by omega) (by omega)]
        exact rcmp_k2 w r t h r' t' h' ka' kb' hc (by omega) ho hm ho' hm' (by omega) (by omega)
      · rw [leaf (by omega) (by omega)]
        exact rcmp_k3 w r t h r' t' h' ka' kb' hc (by omega) ho hm ho' hm' (by omega) (by omega)
      · rw [leaf (by omega) (by omega), leafKey_n (by omega), leafKey_n (by omega), h.num, h'.num]
        rw [show lex Od.sg [r.n] [r'.n] = Od.sg r.n r'.n from andC_zero _]
        exact rcmp_k4 w r t h r' t' h' ka' kb' hc (by omega)
      · rw [leaf (by omega) (by omega), leafKey_n (by omega), leafKey_n (by omega), h.num, h'.num]
        rw [show lex Od.sg [r.n] [r'.n] = Od.sg r.n r'.n from andC_zero _]
        exact rcmp_k5 w r t h r' t' h' ka' kb' hc (by omega)
      · rw [cmpT_node (by omega) (by omega)]
        exact args (by omega)
      · have a1 := Tm.form_args hf (by omega)
        have a2 := Tm.form_args hf' (by omega)
        rw [leaf (by omega) (by omega), leafKey_o (by omega), leafKey_o (by omega)]
        have := args (by omega)
        rw [a1, a2] at this
        exact this
      · rw [cmpT_node (by omega) (by omega)]
        exact args (by omega)
      · rw [leaf (by omega) (by omega), leafKey_s (by omega), leafKey_s (by omega), h.bytes, h'.bytes, bytes_sg]
        exact rcmp_k9 w r t h r' t' h' ka' kb' hc (by omega)
    · rw [cmpT_cls (by rw [kt, kt']; exact hc), kt, kt']
      exact rcmp_cls w r t h r' t' h' ka' kb' hc

set_option maxRecDepth 100000 in
set_option maxHeartbeats 2000000 in
theorem refCmpT_any (w : World) (r : TR) (t : Tm) (h : TV w r t) (ho : t.Ok) (r' : TR) (t' : Tm) (h' : TV w r' t') (ho' : t'.Ok) :
    Calls Try.prog 9 #[.agg #[.int .i64 r.k, .int .i64 r.n, .bool r.g, .slice r.A r.ln r.lc, .int .u64 r.u, .string r.s, .slice r.B r.m r.d], .agg #[.int .i64 r'.k, .int .i64 r'.n, .bool r'.g, .slice r'.A r'.ln r'.lc, .int .u64 r'.u, .string r'.s, .slice r'.B r'.m r'.d]] w (IntPost w (Tm.ordB t t')) := by
  obtain ⟨R, hR⟩ : ∃ R, R = Tm.ordB t t' := ⟨_, rfl⟩
  rw [← hR]
  unfold Tm.ordB at hR
  have HR := Lib.hid hR
  clear hR
  have I := SmI.new h h'
  clear h h'
  have y0 := I.bx.at.c0; have y1 := I.bx.at.c1; have y2 := I.bx.at.c2; have y3 := I.bx.at.c3; have y4 := I.bx.at.c4; have y5 := I.bx.at.c5; have y6 := I.bx.at.c6
  go_enter Try.func9, Try.ntmps9
  go_wp2_with fail
  generalize (w.alloc (.cells #[.int .i64 r.k, .int .i64 r.n, .bool r.g, .slice r.A r.ln r.lc, .int .u64 r.u, .string r.s, .slice r.B r.m r.d] 28)).alloc (.cells #[.int .i64 r'.k, .int .i64 r'.n, .bool r'.g, .slice r'.A r'.ln r'.lc, .int .u64 r'.u, .string r'.s, .slice r'.B r'.m r'.d] 28) = W at *
  refine (refMayT_any W r t I.tv ho).mono ?_
  cases hm : t.mayB with
  | false =>
    have fin := Lib.hid (show R = 0 by rw [HR.out, hm]; rfl)
    rintro e w1 ⟨rfl, hb1⟩
    go_wp2
    go_ret
    exact ⟨by rw [fin.out]; rfl, I.be.trans (hb1.mono I.be.size)⟩
  | true =>
    rintro e w1 ⟨rfl, hb1⟩
    have I1 := I.below hb1
    clear I y0 y1 y2 y3 y4 y5 y6
    have y0 := I1.ix.at.c0; have y1 := I1.ix.at.c1; have y2 := I1.ix.at.c2; have y3 := I1.ix.at.c3; have y4 := I1.ix.at.c4; have y5 := I1.ix.at.c5; have y6 := I1.ix.at.c6
    go_wp2_with fail
    refine (refMayT_any w1 r' t' I1.tw ho').mono ?_
    cases hm' : t'.mayB with
    | false =>
      have fin := Lib.hid (show R = 0 by rw [HR.out, hm, hm']; rfl)
      rintro e w2 ⟨rfl, hb2⟩
      go_wp2
      go_ret
      exact ⟨by rw [fin.out]; rfl, I1.be.trans (hb2.mono I1.be.size)⟩
    | true =>
      have fin := Lib.hid (show R = Tm.cmpT t t' by rw [HR.out, hm, hm']; rfl)
      rintro e w2 ⟨rfl, hb2⟩
      have I2 := I1.below hb2
      clear I1 y0 y1 y2 y3 y4 y5 y6
      have y0 := I2.bx.at.c0; have y1 := I2.bx.at.c1; have y2 := I2.bx.at.c2; have y3 := I2.bx.at.c3; have y4 := I2.bx.at.c4; have y5 := I2.bx.at.c5; have y6 := I2.bx.at.c6; have x0 := I2.ix.at.c0; have x1 := I2.ix.at.c1; have x2 := I2.ix.at.c2; have x3 := I2.ix.at.c3; have x4 := I2.ix.at.c4; have x5 := I2.ix.at.c5; have x6 := I2.ix.at.c6
      go_wp2_with fail
      refine (rcmp_any t w2 r r' t' I2.tv I2.tw ho ho' hm hm').mono ?_
      rw [← fin.out]
      rintro e w3 ⟨rfl, hb3⟩
      go_wp2
      go_ret
      exact ⟨rfl, I2.be.trans (hb3.mono I2.be.size)⟩

set_option maxRecDepth 100000 in
set_option maxHeartbeats 2000000 in
theorem refLessT_any (w : World) (r : TR) (t : Tm) (h : TV w r t) (ho : t.Ok) (r' : TR) (t' : Tm) (h' : TV w r' t') (ho' : t'.Ok) :
    Calls Try.prog 11 #[.agg #[.int .i64 r.k, .int .i64 r.n, .bool r.g, .slice r.A r.ln r.lc, .int .u64 r.u, .string r.s, .slice r.B r.m r.d], .agg #[.int .i64 r'.k, .int .i64 r'.n, .bool r'.g, .slice r'.A r'.ln r'.lc, .int .u64 r'.u, .string r'.s, .slice r'.B r'.m r'.d]] w fun e w' => e = .returned (.bool (decide (Tm.ordB t t' < 0))) ∧ Below w.heap.size w w' := by
  obtain ⟨q, hq⟩ : ∃ q, q = Tm.ordB t t' := ⟨_, rfl⟩
  rw [← hq]
  have HQ := Lib.hid hq
  clear hq
  have I := SmI.new h h'
  clear h h'
  have y0 := I.bx.at.c0; have y1 := I.bx.at.c1; have y2 := I.bx.at.c2; have y3 := I.bx.at.c3; have y4 := I.bx.at.c4; have y5 := I.bx.at.c5; have y6 := I.bx.at.c6; have x0 := I.ix.at.c0; have x1 := I.ix.at.c1; have x2 := I.ix.at.c2; have x3 := I.ix.at.c3; have x4 := I.ix.at.c4; have x5 := I.ix.at.c5; have x6 := I.ix.at.c6
  go_enter Try.func11, Try.ntmps11
  go_wp2_with fail
  generalize (w.alloc (.cells #[.int .i64 r.k, .int .i64 r.n, .bool r.g, .slice r.A r.ln r.lc, .int .u64 r.u, .string r.s, .slice r.B r.m r.d] 28)).alloc (.cells #[.int .i64 r'.k, .int .i64 r'.n, .bool r'.g, .slice r'.A r'.ln r'.lc, .int .u64 r'.u, .string r'.s, .slice r'.B r'.m r'.d] 28) = W at *
  refine (refCmpT_any W r t I.tv ho r' t' I.tw ho').mono ?_
  rw [← HQ.out]
  rintro e w1 ⟨rfl, hb1⟩
  go_wp2
  go_ret
  exact ⟨rfl, I.be.trans (hb1.mono I.be.size)⟩
end Go.Proofs.Ytmcfokeibecopaa
