/-
  WHAT OPERATIONS COME TO, of valid terms.
-/
import Derived.Test.YtompimbeaeinbaaGreatArG
import Derived.Test.YtompimbeaeinbaaGreatLawREdges
import Derived.Test.YtompimbeaeinbaaGreatLawRNums
namespace Go.Proofs.YtompimbeaeinbaaGreat
open Go.RowKit

set_option maxRecDepth 100000 in
theorem fR_cl (z : Int) : Cl (fR z) := cl_ofR _ _
set_option maxRecDepth 100000 in
theorem fR_one : fR 1 = 4607182418800017408 := by
  have := aw_of 1 rfl (decide ((1 : Int) < 0)) rfl
  unfold fR
  rw [this]
  rfl
set_option maxRecDepth 100000 in
theorem fR_zero : fR 0 = 0 := by
  unfold fR
  rw [show Lm.digits (0 : Int).natAbs = [] from Lm.digits_zero]
  unfold ofR
  rw [show mayB (decide ((0 : Int) < 0)) [] = true from by decide, if_pos rfl, show decide ((0 : Int) < 0) = false from by decide, Fl.word_false, show Lm.val [] = 0 from by decide, Fl.ofN_zero]
  rfl
set_option maxRecDepth 100000 in
theorem flt_ok (u : Int) : (fltT u).Ok := by simp [fltT, Tm.Ok, Tm.Oks, ByteArray.size]
set_option maxRecDepth 100000 in
theorem flt_wt (u : Int) : (fltT u).cap ≤ 300 := by simp [fltT, Tm.cap, Tm.wt]
set_option maxRecDepth 100000 in
theorem flt_may_eq (u : Int) : (fltT u).mayB = (cleanI u == u) := by
  rw [Tm.mayB, decide_eq_true (flt_wt u)]
  simp [fltT, Tm.formB, Tm.formsB, Tm.alikeB, Tm.ment, Tm.boundB, Tm.kind, Tm.num, Tm.args, Tm.mag, Tm.neg, Tm.bits, Tm.bytes]
set_option maxRecDepth 100000 in
theorem flt_may {u : Int} (h : Cl u) : (fltT u).mayB = true := by rw [flt_may_eq, clean_cl h]; exact beq_iff_eq.2 rfl
set_option maxRecDepth 100000 in
theorem fltO_flt {u : Int} (h : (fltT u).mayB = true) : (fltT u).fltO = some u := by unfold Tm.fltO; rw [if_pos ⟨h, rfl⟩]; rfl
set_option maxRecDepth 100000 in
theorem int_ok {z : Int} (h : z.natAbs < Lm.top) : (intT z).Ok := by
  unfold intT
  have := (Lm.top_iff _).2 h
  exact ofT_ok (by omega)
set_option maxRecDepth 100000 in
theorem int_may {z : Int} (h : z.natAbs < Lm.top) : (intT z).mayB = true := ofT_may (may_digits z h)
set_option maxRecDepth 100000 in
theorem top64 {z : Int} (h1 : -9223372036854775808 ≤ z) (h2 : z ≤ 9223372036854775807) : z.natAbs < Lm.top := by have := Lm.top_ge; omega
set_option maxRecDepth 100000 in
theorem int_kind {z : Int} (h : z.natAbs < Lm.top) : (intT z).kind = 1 ∨ (intT z).kind = 2 := by
  cases hs : smallB z with
  | true => rw [intT_small h hs]; exact .inl rfl
  | false => rw [intT_big h hs]; exact .inr rfl
set_option maxRecDepth 100000 in
theorem int_kind3 {z : Int} (h : z.natAbs < Lm.top) : (intT z).kind ≠ 3 := by
  rcases int_kind h with e | e <;> rw [e] <;> decide
set_option maxRecDepth 100000 in
theorem intO_int {z : Int} (h : z.natAbs < Lm.top) : (intT z).intO = some z := by
  have hm := int_may h
  unfold Tm.intO
  rw [if_pos hm]
  cases hs : smallB z with
  | true => rw [intT_small h hs]; rfl
  | false =>
    rw [intT_big h hs]
    show some (sgn (decide (z < 0)) (Lm.val (Lm.digits z.natAbs))) = some z
    rw [sgn_digits]
set_option maxRecDepth 100000 in
theorem fltO_int {z : Int} (h : z.natAbs < Lm.top) : (intT z).fltO = some (fR z) := by
  unfold Tm.fltO
  rw [if_neg (fun e => int_kind3 h e.2), intO_int h]
  rfl
set_option maxRecDepth 100000 in
/-- What an operation on floats comes to may be. -/
theorem flO_cl {op x y v : Int} (h : flO op x y = some v) : Cl v := by
  unfold flO at h
  split at h
  · obtain rfl := Option.some.inj h; exact cl_op _ _ _
  split at h
  · obtain rfl := Option.some.inj h; exact cl_op _ _ _
  split at h
  · obtain rfl := Option.some.inj h; exact cl_op _ _ _
  split at h
  · obtain rfl := Option.some.inj h; exact cl_op _ _ _
  · simp at h
set_option maxRecDepth 100000 in
theorem flO_k {k : Nat} (hk : k < 4) (x y : Int) : ∃ v, flO (5 + (k : Int)) x y = some v := by
  have : k = 0 ∨ k = 1 ∨ k = 2 ∨ k = 3 := by omega
  rcases this with rfl | rfl | rfl | rfl
  · exact ⟨_, rfl⟩
  · exact ⟨_, rfl⟩
  · exact ⟨_, rfl⟩
  · exact ⟨_, rfl⟩
set_option maxRecDepth 100000 in
theorem doO_flt {op x y v : Int} {a b : Tm} (hk : op = 8 ∨ a.kind = 3 ∨ b.kind = 3) (hx : a.fltO = some x) (hy : b.fltO = some y) (hv : flO op x y = some v) : doO op a b = some (fltT v) := by
  unfold doO
  rw [if_pos hk, hx, hy]
  simp only [Option.bind_some, hv]
  rfl
set_option maxRecDepth 100000 in
theorem doO_int {op x y v : Int} {a b : Tm} (h8 : op ≠ 8) (ha : a.kind ≠ 3) (hb : b.kind ≠ 3) (hx : a.intO = some x) (hy : b.intO = some y) (hv : whO op x y = some v) : doO op a b = some (intT v) := by
  unfold doO
  rw [if_neg (fun h => h.elim h8 (fun h => h.elim ha hb)), hx, hy]
  simp only [Option.bind_some, hv]
  rfl
set_option maxRecDepth 100000 in
theorem flt_tv {w : World} {u : Int} (h0 : 0 ≤ u) (h1 : u ≤ 18446744073709551615) : TV w (mkR 3 0 u ⟨#[]⟩ none 0 0) (fltT u) := TV.leaf (by omega) (by omega) (by omega) (by omega) h0 h1 (by decide)

/-- A variable that holds a term. -/
structure Vt (W : World) (g : Nat) (R : TR) (t : Tm) : Prop where
  bx : Box7 W g R
  tv : TV W R t
set_option maxRecDepth 100000 in
theorem Vt.below {W W' : World} {g : Nat} {R : TR} {t : Tm} (h : Vt W g R t) (hb : Below W.heap.size W W') : Vt W' g R t := ⟨h.bx.below hb, h.tv.bel hb⟩
set_option maxRecDepth 100000 in
theorem Vt.new {w : World} {R : TR} {t : Tm} (h : TV w R t) : Vt (w.alloc (.cells #[.int .i64 R.k, .int .i64 R.n, .bool R.g, .slice R.A R.ln R.lc, .int .u64 R.u, .string R.s, .slice R.B R.m R.d] 28)) w.heap.size R t := ⟨Box7.new w R, h.bel ((Below.refl _ _).alloc (Nat.le_refl _) _)⟩
end Go.Proofs.YtompimbeaeinbaaGreat
