/-
  CONTRACTS OF PACKAGE real ON FLOATS: May, Clean, Add, Sub, Mul, Div, Cmp, and of the reference's.
-/
import Derived.Test.YtbpihjcghmmacaaFltB
import Derived.Test.YtbpihjcghmmacaaMem
import Derived.WalkLawsBesides
import Derived.Laws.Externs
namespace Go.Proofs.Ytbpihjcghmmacaa
open Go.RowKit

def U64 (a : Int) : Prop := 0 ≤ a ∧ a < 18446744073709551616
theorem U64.nat {a : Int} (h : U64 a) : a.toNat < 2 * Fl.S := by
  have : Fl.S = 9223372036854775808 := rfl
  unfold U64 at h; omega
theorem U64.mk {n : Nat} (h : n < 2 * Fl.S) : U64 (n : Int) := by
  have : Fl.S = 9223372036854775808 := rfl
  unfold U64; omega

theorem call_frombits (a : Int) (w : World) : (callFunc 71 #[.int .u64 a]).run Try.prog w = .ok (.value (.float .f64 a.toNat)) w := by
  rw [run_callFunc_extern (e := Extern.MathFloatBits.float64frombits) Try.func71 (by kernel_rfl) (by kernel_rfl) (by kernel_rfl) (by kernel_rfl)]
  rfl
theorem order_self (a : Nat) : (FloatKind.f64.format.order a a != some .eq) = Fl.nanB a := Fl.order_self a

set_option maxHeartbeats 400000 in
theorem isNaN_any (w : World) (a : Nat) :
    Calls Try.prog 70 #[.float .f64 a] w fun e w' => e = .returned (.bool (Fl.nanB a)) ∧ w = w' := by
  have h := Lib.hid (order_self a)
  go_enter Try.func70, Try.ntmps70
  go_wp2
  go_ret
  rw [← h.out]
  exact ⟨rfl, rfl⟩

/-- Clean, of bits. -/
def cleanN (a : Nat) : Nat := if Fl.nanB a then Fl.NAN else a
def cleanI (a : Int) : Int := (cleanN a.toNat : Nat)

set_option maxHeartbeats 400000 in
theorem clean_any (w : World) (a : Int) (h : U64 a) :
    Calls Try.prog 69 #[.int .u64 a] w fun e w' => e = .returned (.int .u64 (cleanI a)) ∧ w = w' := by
  have c1 := call_frombits
  cases hb : Fl.nanB a.toNat with
  | true =>
    have fin : Hid (cleanI a = 9221120237041090561) := by unfold cleanI cleanN; rw [if_pos hb]; exact Lib.hid rfl
    go_enter Try.func69, Try.ntmps69
    go_wp2_with (go_at_call 70; refine (isNaN_any _ _).mono ?_; rintro e w' ⟨rfl, rfl⟩)
    go_ret
    rw [fin.out]
    exact ⟨rfl, rfl⟩
  | false =>
    have fin : Hid (cleanI a = a) := by unfold cleanI cleanN; rw [if_neg (by rw [hb]; decide)]; exact Lib.hid (Int.toNat_of_nonneg h.1)
    go_enter Try.func69, Try.ntmps69
    go_wp2_with (go_at_call 70; refine (isNaN_any _ _).mono ?_; rintro e w' ⟨rfl, rfl⟩)
    go_ret
    rw [fin.out]
    exact ⟨rfl, rfl⟩

theorem cleanN_lt {a : Nat} (h : a < 2 * Fl.S) : cleanN a < 2 * Fl.S := by
  unfold cleanN
  split
  · decide
  · exact h
theorem cleanI_u64 {a : Int} (h : U64 a) : U64 (cleanI a) := U64.mk (cleanN_lt h.nat)

set_option maxHeartbeats 400000 in
theorem may_flt (w : World) (a : Int) (h : U64 a) :
    Calls Try.prog 66 #[.int .u64 a] w fun e w' => e = .returned (.bool (cleanI a == a)) ∧ w = w' := by
  go_enter Try.func66, Try.ntmps66
  go_wp2_with (go_at_call 69; refine (clean_any _ _ h).mono ?_; rintro e w' ⟨rfl, rfl⟩)
  go_ret
  exact ⟨rfl, rfl⟩

/-- What an operation gives, clean. -/
def opN (op : BinOp) (a b : Nat) : Nat := (floatBits op .f64 a b).getD Fl.NAN
def opI (op : BinOp) (a b : Int) : Int := (opN op a.toNat b.toNat : Nat)
theorem opN_lt (op : BinOp) (a b : Nat) : opN op a b < 2 * Fl.S := by
  unfold opN
  cases h : floatBits op .f64 a b with
  | none => decide
  | some r =>
    have := floatBits_wf h
    simp [Lit.wf] at this
    have e : Fl.S = 9223372036854775808 := rfl
    simp only [Option.getD_some]; omega
theorem opI_u64 (op : BinOp) (a b : Int) : U64 (opI op a b) := U64.mk (opN_lt _ _ _)
theorem clean_some {op : BinOp} {a b r : Nat} (h : floatBits op .f64 a b = some r) : cleanN r = opN op a b := by
  unfold cleanN opN
  rw [Fl.floatBits_num h, h]
  rfl
theorem nan_cut (w : World) (x y : Nat) : Fl.nanB (Question.cut (.nanBits .f64 x y) (w.tape w.drawn (.nanBits .f64 x y))) = true ∧ Question.cut (.nanBits .f64 x y) (w.tape w.drawn (.nanBits .f64 x y)) < 2 * Fl.S := by
  generalize w.tape w.drawn (.nanBits .f64 x y) = t
  have e1 : Fl.S = 9223372036854775808 := rfl
  have e2 : Fl.INF = 9218868437227405312 := rfl
  have h1 : Question.cut (.nanBits .f64 x y) t = (t % 2) * 9223372036854775808 + 9218868437227405312 + 1 + (t / 2) % 4503599627370495 := rfl
  rw [h1]
  refine ⟨?_, by omega⟩
  unfold Fl.nanB Fl.rg
  rw [decide_eq_true_iff, e1, e2]
  have h2 : (t / 2) % 4503599627370495 < 4503599627370495 := Nat.mod_lt _ (by omega)
  generalize (t / 2) % 4503599627370495 = q at *
  rcases Nat.mod_two_eq_zero_or_one t with h3 | h3 <;> rw [h3] <;> omega
theorem clean_none {op : BinOp} {a b r : Nat} (h : floatBits op .f64 a b = none) (hr : Fl.nanB r = true) : cleanN r = opN op a b := by
  unfold cleanN opN
  rw [hr, h]
  rfl
/-- Invalid: the tape is asked. -/
theorem run_float_none {P : Program} (w : World) (op : BinOp) (t : TypeId) (x y : Nat) (hop : op = .add ∨ op = .sub ∨ op = .mul ∨ op = .quo) (h : floatBits op .f64 x y = none) :
    (binOp op t (.float .f64 x) (.float .f64 y)).run P w = .ok (.float .f64 (Question.cut (.nanBits .f64 x y) (w.tape w.drawn (.nanBits .f64 x y)))) w.drew := by
  unfold floatBits at h
  rcases hop with rfl | rfl | rfl | rfl <;> simp only at h <;> simp [binOp, Op.floatArith, h, Question.forced]


end Go.Proofs.Ytbpihjcghmmacaa
