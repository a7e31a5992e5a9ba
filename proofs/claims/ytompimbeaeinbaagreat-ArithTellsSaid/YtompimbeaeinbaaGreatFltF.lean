/-
  CONTRACTS OF math.Floor, math.Abs, real.whole.
-/
import Derived.Test.YtompimbeaeinbaaGreatFltE
import Derived.Test.YtompimbeaeinbaaGreatJ3
import Derived.Test.YtompimbeaeinbaaGreatJ4
namespace Go.Proofs.YtompimbeaeinbaaGreat
open Go.RowKit

set_option maxRecDepth 100000 in
theorem floor_shape (a : Nat) (s : Bool) (m : Nat) (p : Int) (hd : FloatKind.f64.decode a = .number s m p) : Extern.MathFloor.toIntegral "math.archFloor" .down #[.float .f64 a] = pure (.float .f64 (FloatKind.f64.encode (Ieee.Datum.integral .down (.number s m p)))) := by
  show Extern.MathFloor.toIntegral.match_1 (fun _ => Sem Value) (FloatKind.f64.decode a) _ _ = _
  rw [hd]
set_option maxRecDepth 100000 in
theorem encode_eq (d : Ieee.Datum) : FloatKind.f64.encode d = Ieee.double.write d := rfl
set_option maxRecDepth 100000 in
set_option maxHeartbeats 400000 in
theorem abs_any (w : World) (a : Nat) (h : a < 2 * Fl.S) :
    Calls Tryz.prog 106 #[.float .f64 a] w fun e w' => e = .returned (.float .f64 (Fl.rg a)) ∧ w = w' := by
  have c1 := call_frombits
  have c2 := call_bits
  have hu := U64.mk h
  have fin : Hid ((bits .andNot .u64 (a : Int) 9223372036854775808).toNat = Fl.rg a) := Lib.hid (by
    rw [bits_andNot hu]; simp)
  go_enter Tryz.func106, Tryz.ntmps106
  go_wp2
  go_ret
  rw [← fin.out]
  exact ⟨rfl, rfl⟩


set_option maxRecDepth 100000 in
theorem whole_sign {g : Bool} {K : Nat} : (FloatKind.f64.format.order (Ieee.double.word g (Fl.ofN K)) 0 == some .lt) = decide (sgn g K < 0) := by
  have hn : Fl.nanB (Ieee.double.word g (Fl.ofN K)) = false := by
    unfold Fl.nanB
    rw [Fl.word_rg (Fl.ofN_lt K)]
    exact decide_eq_false (by have := Fl.ofN_le K; omega)
  rw [flt_lt hn (by decide)]
  have h0 : Fl.si 0 = 0 := by decide
  have h1 := @Fl.ofN_eq_zero K
  rw [h0]
  unfold Fl.si
  rw [Fl.word_rg (Fl.ofN_lt K), Fl.word_ng (Fl.ofN_lt K)]
  unfold Fl.sgnd sgn
  rw [decide_eq_decide]
  cases g <;> simp <;> omega
set_option maxRecDepth 100000 in
theorem rest_pos (N : Nat) : (FloatKind.f64.format.order (Fl.ofN N) 0 == some .gt) = decide (N ≠ 0) := by
  have hn : Fl.nanB (Fl.ofN N) = false := by
    unfold Fl.nanB
    rw [Fl.pos_rg (Fl.ofN_lt N)]
    exact decide_eq_false (by have := Fl.ofN_le N; omega)
  rw [flt_gt hn (by decide)]
  have h0 : Fl.si 0 = 0 := by decide
  have h1 := @Fl.ofN_eq_zero N
  rw [h0]
  unfold Fl.si
  rw [Fl.pos_rg (Fl.ofN_lt N), Fl.pos_ng (Fl.ofN_lt N)]
  unfold Fl.sgnd
  rw [decide_eq_decide]
  simp
  omega

end Go.Proofs.YtompimbeaeinbaaGreat
