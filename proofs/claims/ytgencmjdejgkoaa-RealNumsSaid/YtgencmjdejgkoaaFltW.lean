/-
  CONTRACTS OF PACKAGE real ON FLOATS: May, Clean, Add, Sub, Mul, Div, Cmp, and of the reference's.
-/
import Derived.Test.YtgencmjdejgkoaaFltB
import Derived.Test.YtgencmjdejgkoaaMem
import Derived.WalkLawsBesides
import Derived.Laws.Externs
namespace Go.Proofs.Ytgencmjdejgkoaa
open Go.RowKit

def U64 (a : Int) : Prop := 0 ≤ a ∧ a < 18446744073709551616
theorem U64.nat {a : Int} (h : U64 a) : a.toNat < 2 * Fl.S := by
  have : Fl.S = 9223372036854775808 := rfl
  unfold U64 at h; omega
theorem U64.mk {n : Nat} (h : n < 2 * Fl.S) : U64 (n : Int) := by
  have : Fl.S = 9223372036854775808 := rfl
  unfold U64; omega

theorem call_frombits (a : Int) (w : World) : (callFunc 30 #[.int .u64 a]).run Try.prog w = .ok (.value (.float .f64 a.toNat)) w := by
  rw [run_callFunc_extern (e := Extern.MathFloatBits.float64frombits) Try.func30 (by kernel_rfl) (by kernel_rfl) (by kernel_rfl) (by kernel_rfl)]
  rfl
theorem call_bits (b : Nat) (w : World) : (callFunc 33 #[.float .f64 b]).run Try.prog w = .ok (.value (.int .u64 b)) w := by
  rw [run_callFunc_extern (e := Extern.MathFloatBits.float64bits) Try.func33 (by kernel_rfl) (by kernel_rfl) (by kernel_rfl) (by kernel_rfl)]
  rfl

theorem order_self (a : Nat) : (FloatKind.f64.format.order a a != some .eq) = Fl.nanB a := Fl.order_self a

set_option maxHeartbeats 400000 in
theorem isNaN_any (w : World) (a : Nat) :
    Calls Try.prog 40 #[.float .f64 a] w fun e w' => e = .returned (.bool (Fl.nanB a)) ∧ w = w' := by
  have h := Lib.hid (order_self a)
  go_enter Try.func40, Try.ntmps40
  go_wp2
  go_ret
  rw [← h.out]
  exact ⟨rfl, rfl⟩

/-- Clean, of bits. -/
def cleanN (a : Nat) : Nat := if Fl.nanB a then Fl.NAN else a
def cleanI (a : Int) : Int := (cleanN a.toNat : Nat)

set_option maxHeartbeats 400000 in
theorem clean_any (w : World) (a : Int) (h : U64 a) :
    Calls Try.prog 19 #[.int .u64 a] w fun e w' => e = .returned (.int .u64 (cleanI a)) ∧ w = w' := by
  have c1 := call_frombits
  cases hb : Fl.nanB a.toNat with
  | true =>
    have fin : Hid (cleanI a = 9221120237041090561) := by unfold cleanI cleanN; rw [if_pos hb]; exact Lib.hid rfl
    go_enter Try.func19, Try.ntmps19
    go_wp2_with (go_at_call 40; refine (isNaN_any _ _).mono ?_; rintro e w' ⟨rfl, rfl⟩)
    go_ret
    rw [fin.out]
    exact ⟨rfl, rfl⟩
  | false =>
    have fin : Hid (cleanI a = a) := by unfold cleanI cleanN; rw [if_neg (by rw [hb]; decide)]; exact Lib.hid (Int.toNat_of_nonneg h.1)
    go_enter Try.func19, Try.ntmps19
    go_wp2_with (go_at_call 40; refine (isNaN_any _ _).mono ?_; rintro e w' ⟨rfl, rfl⟩)
    go_ret
    rw [fin.out]
    exact ⟨rfl, rfl⟩

theorem cleanN_lt {a : Nat} (h : a < 2 * Fl.S) : cleanN a < 2 * Fl.S := by
  unfold cleanN
  split
  · decide
  · exact h
theorem cleanI_u64 {a : Int} (h : U64 a) : U64 (cleanI a) := U64.mk (cleanN_lt h.nat)

set_option maxHeartbeats 400000 in
theorem may_flt (w : World) (a : Int) (h : U64 a) :
    Calls Try.prog 21 #[.int .u64 a] w fun e w' => e = .returned (.bool (cleanI a == a)) ∧ w = w' := by
  go_enter Try.func21, Try.ntmps21
  go_wp2_with (go_at_call 19; refine (clean_any _ _ h).mono ?_; rintro e w' ⟨rfl, rfl⟩)
  go_ret
  exact ⟨rfl, rfl⟩

set_option maxHeartbeats 400000 in
theorem cleanF_any (w : World) (b : Nat) (h : b < 2 * Fl.S) :
    Calls Try.prog 37 #[.float .f64 b] w fun e w' => e = .returned (.int .u64 (cleanN b : Nat)) ∧ w = w' := by
  have c2 := call_bits
  have hu := U64.mk h
  go_enter Try.func37, Try.ntmps37
  go_wp2_with (go_at_call 19; refine (clean_any _ _ hu).mono ?_; rintro e w' ⟨rfl, rfl⟩)
  go_ret
  exact ⟨rfl, rfl⟩

/-- What an operation gives, clean. -/
def opN (op : BinOp) (a b : Nat) : Nat := (floatBits op .f64 a b).getD Fl.NAN
def opI (op : BinOp) (a b : Int) : Int := (opN op a.toNat b.toNat : Nat)
theorem opN_lt (op : BinOp) (a b : Nat) : opN op a b < 2 * Fl.S := by
  unfold opN
  cases h : floatBits op .f64 a b with
  | none => decide
  | some r =>
    have := floatBits_wf h
    simp [Lit.wf] at this
    have e : Fl.S = 9223372036854775808 := rfl
    simp only [Option.getD_some]; omega
theorem opI_u64 (op : BinOp) (a b : Int) : U64 (opI op a b) := U64.mk (opN_lt _ _ _)
theorem clean_some {op : BinOp} {a b r : Nat} (h : floatBits op .f64 a b = some r) : cleanN r = opN op a b := by
  unfold cleanN opN
  rw [Fl.floatBits_num h, h]
  rfl
theorem nan_cut (w : World) (x y : Nat) : Fl.nanB (Question.cut (.nanBits .f64 x y) (w.tape w.drawn (.nanBits .f64 x y))) = true ∧ Question.cut (.nanBits .f64 x y) (w.tape w.drawn (.nanBits .f64 x y)) < 2 * Fl.S := by
  generalize w.tape w.drawn (.nanBits .f64 x y) = t
  have e1 : Fl.S = 9223372036854775808 := rfl
  have e2 : Fl.INF = 9218868437227405312 := rfl
  have h1 : Question.cut (.nanBits .f64 x y) t = (t % 2) * 9223372036854775808 + 9218868437227405312 + 1 + (t / 2) % 4503599627370495 := rfl
  rw [h1]
  refine ⟨?_, by omega⟩
  unfold Fl.nanB Fl.rg
  rw [decide_eq_true_iff, e1, e2]
  have h2 : (t / 2) % 4503599627370495 < 4503599627370495 := Nat.mod_lt _ (by omega)
  generalize (t / 2) % 4503599627370495 = q at *
  rcases Nat.mod_two_eq_zero_or_one t with h3 | h3 <;> rw [h3] <;> omega
theorem clean_none {op : BinOp} {a b r : Nat} (h : floatBits op .f64 a b = none) (hr : Fl.nanB r = true) : cleanN r = opN op a b := by
  unfold cleanN opN
  rw [hr, h]
  rfl
/-- Invalid: the tape is asked. -/
theorem run_float_none {P : Program} (w : World) (op : BinOp) (t : TypeId) (x y : Nat) (hop : op = .add ∨ op = .sub ∨ op = .mul ∨ op = .quo) (h : floatBits op .f64 x y = none) :
    (binOp op t (.float .f64 x) (.float .f64 y)).run P w = .ok (.float .f64 (Question.cut (.nanBits .f64 x y) (w.tape w.drawn (.nanBits .f64 x y)))) w.drew := by
  unfold floatBits at h
  rcases hop with rfl | rfl | rfl | rfl <;> simp only at h <;> simp [binOp, Op.floatArith, h, Question.forced]


set_option maxHeartbeats 400000 in
theorem fAdd_any (w : World) (a b : Int) :
    Calls Try.prog 10 #[.int .u64 a, .int .u64 b] w fun e w' => e = .returned (.int .u64 (opI .add a b)) ∧ Below w.heap.size w w' := by
  have c1 := call_frombits
  cases h : floatBits .add .f64 a.toNat b.toNat with
  | some r =>
    have fin := Lib.hid (clean_some h)
    have hr : r < 2 * Fl.S := by have := opN_lt .add a.toNat b.toNat; unfold opN at this; rw [h] at this; exact this
    have hrun := fun w => run_float_arith (P := Try.prog) w .add 36 .f64 _ _ r h
    clear h
    go_enter Try.func10, Try.ntmps10
    go_wp2_with (go_at_call 37; refine (cleanF_any _ _ hr).mono ?_; rintro e w' ⟨rfl, rfl⟩)
    go_ret
    rw [fin.out]
    exact ⟨rfl, Below.refl _ _⟩
  | none =>
    have hrun := run_float_none (P := Try.prog) w .add 36 _ _ (by decide) h
    have hc := nan_cut w a.toNat b.toNat
    have fin := Lib.hid (clean_none h hc.1)
    have hr := hc.2
    generalize Question.cut (.nanBits .f64 a.toNat b.toNat) (w.tape w.drawn (.nanBits .f64 a.toNat b.toNat)) = r at *
    clear h hc
    go_enter Try.func10, Try.ntmps10
    go_wp2_with (go_at_call 37; refine (cleanF_any _ _ hr).mono ?_; rintro e w' ⟨rfl, rfl⟩)
    go_ret
    rw [fin.out]
    exact ⟨rfl, (Below.refl _ _).drew⟩

set_option maxHeartbeats 400000 in
theorem fSub_any (w : World) (a b : Int) :
    Calls Try.prog 12 #[.int .u64 a, .int .u64 b] w fun e w' => e = .returned (.int .u64 (opI .sub a b)) ∧ Below w.heap.size w w' := by
  have c1 := call_frombits
  cases h : floatBits .sub .f64 a.toNat b.toNat with
  | some r =>
    have fin := Lib.hid (clean_some h)
    have hr : r < 2 * Fl.S := by have := opN_lt .sub a.toNat b.toNat; unfold opN at this; rw [h] at this; exact this
    have hrun := fun w => run_float_arith (P := Try.prog) w .sub 36 .f64 _ _ r h
    clear h
    go_enter Try.func12, Try.ntmps12
    go_wp2_with (go_at_call 37; refine (cleanF_any _ _ hr).mono ?_; rintro e w' ⟨rfl, rfl⟩)
    go_ret
    rw [fin.out]
    exact ⟨rfl, Below.refl _ _⟩
  | none =>
    have hrun := run_float_none (P := Try.prog) w .sub 36 _ _ (by decide) h
    have hc := nan_cut w a.toNat b.toNat
    have fin := Lib.hid (clean_none h hc.1)
    have hr := hc.2
    generalize Question.cut (.nanBits .f64 a.toNat b.toNat) (w.tape w.drawn (.nanBits .f64 a.toNat b.toNat)) = r at *
    clear h hc
    go_enter Try.func12, Try.ntmps12
    go_wp2_with (go_at_call 37; refine (cleanF_any _ _ hr).mono ?_; rintro e w' ⟨rfl, rfl⟩)
    go_ret
    rw [fin.out]
    exact ⟨rfl, (Below.refl _ _).drew⟩

set_option maxHeartbeats 400000 in
theorem fMul_any (w : World) (a b : Int) :
    Calls Try.prog 14 #[.int .u64 a, .int .u64 b] w fun e w' => e = .returned (.int .u64 (opI .mul a b)) ∧ Below w.heap.size w w' := by
  have c1 := call_frombits
  cases h : floatBits .mul .f64 a.toNat b.toNat with
  | some r =>
    have fin := Lib.hid (clean_some h)
    have hr : r < 2 * Fl.S := by have := opN_lt .mul a.toNat b.toNat; unfold opN at this; rw [h] at this; exact this
    have hrun := fun w => run_float_arith (P := Try.prog) w .mul 36 .f64 _ _ r h
    clear h
    go_enter Try.func14, Try.ntmps14
    go_wp2_with (go_at_call 37; refine (cleanF_any _ _ hr).mono ?_; rintro e w' ⟨rfl, rfl⟩)
    go_ret
    rw [fin.out]
    exact ⟨rfl, Below.refl _ _⟩
  | none =>
    have hrun := run_float_none (P := Try.prog) w .mul 36 _ _ (by decide) h
    have hc := nan_cut w a.toNat b.toNat
    have fin := Lib.hid (clean_none h hc.1)
    have hr := hc.2
    generalize Question.cut (.nanBits .f64 a.toNat b.toNat) (w.tape w.drawn (.nanBits .f64 a.toNat b.toNat)) = r at *
    clear h hc
    go_enter Try.func14, Try.ntmps14
    go_wp2_with (go_at_call 37; refine (cleanF_any _ _ hr).mono ?_; rintro e w' ⟨rfl, rfl⟩)
    go_ret
    rw [fin.out]
    exact ⟨rfl, (Below.refl _ _).drew⟩

set_option maxHeartbeats 400000 in
theorem fDiv_any (w : World) (a b : Int) :
    Calls Try.prog 16 #[.int .u64 a, .int .u64 b] w fun e w' => e = .returned (.int .u64 (opI .quo a b)) ∧ Below w.heap.size w w' := by
  have c1 := call_frombits
  cases h : floatBits .quo .f64 a.toNat b.toNat with
  | some r =>
    have fin := Lib.hid (clean_some h)
    have hr : r < 2 * Fl.S := by have := opN_lt .quo a.toNat b.toNat; unfold opN at this; rw [h] at this; exact this
    have hrun := fun w => run_float_arith (P := Try.prog) w .quo 36 .f64 _ _ r h
    clear h
    go_enter Try.func16, Try.ntmps16
    go_wp2_with (go_at_call 37; refine (cleanF_any _ _ hr).mono ?_; rintro e w' ⟨rfl, rfl⟩)
    go_ret
    rw [fin.out]
    exact ⟨rfl, Below.refl _ _⟩
  | none =>
    have hrun := run_float_none (P := Try.prog) w .quo 36 _ _ (by decide) h
    have hc := nan_cut w a.toNat b.toNat
    have fin := Lib.hid (clean_none h hc.1)
    have hr := hc.2
    generalize Question.cut (.nanBits .f64 a.toNat b.toNat) (w.tape w.drawn (.nanBits .f64 a.toNat b.toNat)) = r at *
    clear h hc
    go_enter Try.func16, Try.ntmps16
    go_wp2_with (go_at_call 37; refine (cleanF_any _ _ hr).mono ?_; rintro e w' ⟨rfl, rfl⟩)
    go_ret
    rw [fin.out]
    exact ⟨rfl, (Below.refl _ _).drew⟩

end Go.Proofs.Ytgencmjdejgkoaa
