/-
  PACKAGE arith: Do.
-/
import Derived.Test.YtompimbeaeinbaaGreatArE
import Derived.Test.YtompimbeaeinbaaGreatArEB
import Derived.Test.YtompimbeaeinbaaGreatArEC
import Derived.Test.YtompimbeaeinbaaGreatArF
import Derived.Test.YtompimbeaeinbaaGreatArH
namespace Go.Proofs.YtompimbeaeinbaaGreat
open Go.RowKit

set_option maxRecDepth 100000 in
theorem flO_bd {op x y v : Int} (h : flO op x y = some v) : 0 ≤ v ∧ v ≤ 18446744073709551615 := by
  have hb : ∀ o : BinOp, 0 ≤ opI o x y ∧ opI o x y ≤ 18446744073709551615 := fun o => by
    unfold opI
    have h1 := opN_lt o x.toNat y.toNat
    have h2 : 2 * Fl.S = 18446744073709551616 := by decide
    omega
  unfold flO at h
  split at h
  · obtain rfl := Option.some.inj h; exact hb _
  split at h
  · obtain rfl := Option.some.inj h; exact hb _
  split at h
  · obtain rfl := Option.some.inj h; exact hb _
  split at h
  · obtain rfl := Option.some.inj h; exact hb _
  · simp at h

/-- What an operation on terms comes to. -/
noncomputable def doO (op : Int) (a b : Tm) : Option Tm :=
  if op = 8 ∨ a.kind = 3 ∨ b.kind = 3 then a.fltO.bind fun x => b.fltO.bind fun y => (flO op x y).map fltT
  else a.intO.bind fun x => b.intO.bind fun y => (whO op x y).map intT

section
variable (w : World) (op : Int) (r r' : TR) (t t' : Tm) (h : TV w r t) (h' : TV w r' t') (ho : t.Ok) (ho' : t'.Ok)
include h h' ho ho'
set_option maxRecDepth 100000 in
theorem compute_some (u : Tm) (hd : doO op t t' = some u) : Calls Tryz.prog 14 #[.int .i64 op, .agg #[.int .i64 r.k, .int .i64 r.n, .bool r.g, .slice r.A r.ln r.lc, .int .u64 r.u, .string r.s, .slice r.B r.m r.d], .agg #[.int .i64 r'.k, .int .i64 r'.n, .bool r'.g, .slice r'.A r'.ln r'.lc, .int .u64 r'.u, .string r'.s, .slice r'.B r'.m r'.d]] w (MadeP w u) := by
  unfold doO at hd
  split at hd
  next hk =>
    cases hx : t.fltO with
    | none => rw [hx] at hd; simp at hd
    | some x =>
      cases hy : t'.fltO with
      | none => rw [hx, hy] at hd; simp at hd
      | some y =>
        rw [hx, hy] at hd
        simp only [Option.bind_some] at hd
        cases hv : flO op x y with
        | none => rw [hv] at hd; simp at hd
        | some v =>
          rw [hv] at hd
          obtain rfl := Option.some.inj hd
          exact compute_flt_ok w op r r' t t' h h' ho ho' hk x y v hx hy hv (flO_bd hv).1 (flO_bd hv).2
  next hk =>
    have h8 : op ≠ 8 := fun e => hk (.inl e)
    have h3 : t.kind ≠ 3 := fun e => hk (.inr (.inl e))
    have h3' : t'.kind ≠ 3 := fun e => hk (.inr (.inr e))
    cases hx : t.intO with
    | none => rw [hx] at hd; simp at hd
    | some x =>
      cases hy : t'.intO with
      | none => rw [hx, hy] at hd; simp at hd
      | some y =>
        rw [hx, hy] at hd
        simp only [Option.bind_some] at hd
        cases hv : whO op x y with
        | none => rw [hv] at hd; simp at hd
        | some v =>
          rw [hv] at hd
          obtain rfl := Option.some.inj hd
          exact compute_int_ok w op r r' t t' h h' ho ho' h8 h3 h3' x y v hx hy hv
set_option maxRecDepth 100000 in
theorem compute_none (hd : doO op t t' = none) : Calls Tryz.prog 14 #[.int .i64 op, .agg #[.int .i64 r.k, .int .i64 r.n, .bool r.g, .slice r.A r.ln r.lc, .int .u64 r.u, .string r.s, .slice r.B r.m r.d], .agg #[.int .i64 r'.k, .int .i64 r'.n, .bool r'.g, .slice r'.A r'.ln r'.lc, .int .u64 r'.u, .string r'.s, .slice r'.B r'.m r'.d]] w (BadP w) := by
  unfold doO at hd
  split at hd
  next hk =>
    cases hx : t.fltO with
    | none => exact compute_flt_p1 w op r r' t t' h h' ho hk hx
    | some x =>
      cases hy : t'.fltO with
      | none => exact compute_flt_p2 w op r r' t t' h h' ho ho' hk x hx hy
      | some y =>
        rw [hx, hy] at hd
        simp only [Option.bind_some] at hd
        cases hv : flO op x y with
        | some v => rw [hv] at hd; simp at hd
        | none => exact compute_flt_p3 w op r r' t t' h h' ho ho' hk x y hx hy hv
  next hk =>
    have h8 : op ≠ 8 := fun e => hk (.inl e)
    have h3 : t.kind ≠ 3 := fun e => hk (.inr (.inl e))
    have h3' : t'.kind ≠ 3 := fun e => hk (.inr (.inr e))
    cases hx : t.intO with
    | none => exact compute_int_p1 w op r r' t t' h h' ho h8 h3 h3' hx
    | some x =>
      cases hy : t'.intO with
      | none => exact compute_int_p2 w op r r' t t' h h' ho ho' h8 h3 h3' x hx hy
      | some y =>
        rw [hx, hy] at hd
        simp only [Option.bind_some] at hd
        cases hv : whO op x y with
        | some v => rw [hv] at hd; simp at hd
        | none => exact compute_int_p3 w op r r' t t' h h' ho ho' h8 h3 h3' x y hx hy hv
set_option maxRecDepth 100000 in
theorem do_yes (u : Tm) (hd : doO op t t' = some u) : Calls Tryz.prog 6 #[.int .i64 op, .agg #[.int .i64 r.k, .int .i64 r.n, .bool r.g, .slice r.A r.ln r.lc, .int .u64 r.u, .string r.s, .slice r.B r.m r.d], .agg #[.int .i64 r'.k, .int .i64 r'.n, .bool r'.g, .slice r'.A r'.ln r'.lc, .int .u64 r'.u, .string r'.s, .slice r'.B r'.m r'.d]] w (DoY w u) :=
  do_some w op r r' t t' u h h' fun w' a b => compute_some w' op r r' t t' a b ho ho' u hd
set_option maxRecDepth 100000 in
theorem do_no (hd : doO op t t' = none) : Calls Tryz.prog 6 #[.int .i64 op, .agg #[.int .i64 r.k, .int .i64 r.n, .bool r.g, .slice r.A r.ln r.lc, .int .u64 r.u, .string r.s, .slice r.B r.m r.d], .agg #[.int .i64 r'.k, .int .i64 r'.n, .bool r'.g, .slice r'.A r'.ln r'.lc, .int .u64 r'.u, .string r'.s, .slice r'.B r'.m r'.d]] w (DoN w) :=
  do_none w op r r' t t' h h' fun w' a b => compute_none w' op r r' t t' a b ho ho' hd
end
end Go.Proofs.YtompimbeaeinbaaGreat
