/-
  THE LAW RealEdges.
-/
import Derived.Test.YtgencmjdejgkoaaFltM
import Derived.Test.YtgencmjdejgkoaaLawROrder
namespace Go.Proofs.Ytgencmjdejgkoaa
open Go.RowKit

theorem Cl.num {a : Int} (h : Cl a) : a = 9221120237041090561 ∨ (a ≠ 9221120237041090561 ∧ Fl.nanB a.toNat = false) := by
  by_cases e : a = 9221120237041090561
  · exact Or.inl e
  · refine Or.inr ⟨e, ?_⟩
    cases hn : Fl.nanB a.toNat with
    | false => rfl
    | true => exact absurd (h.n hn) e
theorem opN_none {op : BinOp} {a b : Nat} (h : floatBits op .f64 a b = none) : opN op a b = 9221120237041090561 := by unfold opN; rw [h]; rfl
theorem opN_some {op : BinOp} {a b r : Nat} (h : floatBits op .f64 a b = some r) : opN op a b = r := by unfold opN; rw [h]; rfl
theorem toNat_back {a : Int} (h : U64 a) : ((a.toNat : Nat) : Int) = a := Int.toNat_of_nonneg h.1
theorem NANn : (9221120237041090561 : Int).toNat = Fl.NAN := rfl
theorem nanNAN : Fl.nanB Fl.NAN = true := by decide
theorem cl_op (op : BinOp) (a b : Int) : Cl (opI op a b) := by
  refine ⟨opI_u64 op a b, fun hn => ?_⟩
  unfold opI at hn ⊢
  rw [Int.toNat_natCast] at hn
  cases h : floatBits op .f64 a.toNat b.toNat with
  | none => rw [opN_none h]; rfl
  | some r =>
    rw [opN_some h, Fl.floatBits_num h] at hn
    cases hn
theorem clean_cl {a : Int} (h : Cl a) : cleanI a = a := by
  unfold cleanI cleanN
  split
  · rename_i hn; rw [h.n hn]; rfl
  · exact toNat_back h.u

section
variable {a b : Int} (ha : Cl a)
include ha
theorem ed_add0 : opI .add a 0 = if a = 9223372036854775808 then 0 else a := by
  unfold opI
  rcases ha.num with e | ⟨e, hn⟩
  · subst e
    rw [opN_none (by rw [Fl.fb_add]; exact Fl.nan_add (Or.inl nan_NAN)), if_neg (by decide)]; rfl
  · rw [show (0 : Int).toNat = 0 from rfl, opN_some ((Fl.fb_add _ _).trans (Fl.add_zero ha.u.nat hn))]
    have h1 := toNat_back ha.u
    have e1 : Fl.S = 9223372036854775808 := rfl
    by_cases h : a = 9223372036854775808
    · rw [if_pos h, if_pos (by rw [e1]; omega)]; rfl
    · rw [if_neg h, if_neg (by rw [e1]; omega)]; exact h1
theorem ed_mul1 : opI .mul a 4607182418800017408 = a := by
  unfold opI
  rcases ha.num with e | ⟨e, hn⟩
  · subst e
    rw [opN_none (by rw [Fl.fb_mul]; exact Fl.nan_mul (Or.inl nan_NAN))]; rfl
  · rw [show (4607182418800017408 : Int).toNat = Fl.ONE from rfl, opN_some ((Fl.fb_mul _ _).trans (Fl.mul_one_any ha.u.nat hn))]
    exact toNat_back ha.u
theorem ed_div1 : opI .quo a 4607182418800017408 = a := by
  unfold opI
  rcases ha.num with e | ⟨e, hn⟩
  · subst e
    rw [opN_none (by rw [Fl.fb_quo]; exact Fl.nan_div (Or.inl nan_NAN))]; rfl
  · rw [show (4607182418800017408 : Int).toNat = Fl.ONE from rfl, opN_some ((Fl.fb_quo _ _).trans (Fl.div_one ha.u.nat hn))]
    exact toNat_back ha.u
theorem ed_sub : opI .sub a a = if a = 9221120237041090561 ∨ Fl.rg a.toNat = Fl.INF then 9221120237041090561 else 0 := by
  unfold opI
  rcases ha.num with e | ⟨e, hn⟩
  · subst e
    rw [if_pos (Or.inl rfl), opN_none (by rw [Fl.fb_sub, Fl.sub_eq_add]; exact Fl.nan_add (Or.inl nan_NAN))]; rfl
  · rcases Fl.fin_or hn with hf | hf
    · rw [if_neg (by rintro (h | h); exact e h; omega), opN_some ((Fl.fb_sub _ _).trans (Fl.sub_self hf))]; rfl
    · rw [if_pos (Or.inr hf), opN_none ((Fl.fb_sub _ _).trans (Fl.sub_inf hf))]; rfl
theorem ed_back : opI .mul a 13830554455654793216 = if a = 9221120237041090561 then a else (Fl.flip a.toNat : Nat) := by
  unfold opI
  rcases ha.num with e | ⟨e, hn⟩
  · subst e
    rw [opN_none (by rw [Fl.fb_mul]; exact Fl.nan_mul (Or.inl nan_NAN)), if_pos rfl]; rfl
  · rw [if_neg e]
    have h1 : (13830554455654793216 : Int).toNat = Fl.flip Fl.ONE := by decide
    rw [h1, opN_some ((Fl.fb_mul _ _).trans (by rw [Fl.mul_flip, Fl.mul_one_any ha.u.nat hn]; rfl))]
end
theorem ed_nan1 (a : Int) : opI .add a 9221120237041090561 = 9221120237041090561 := by
  unfold opI
  rw [opN_none (by rw [Fl.fb_add]; exact Fl.nan_add (Or.inr nan_NAN))]; rfl
theorem ed_nan2 (b : Int) : opI .mul 9221120237041090561 b = 9221120237041090561 := by
  unfold opI
  rw [opN_none (by rw [Fl.fb_mul]; exact Fl.nan_mul (Or.inl nan_NAN))]; rfl
theorem ed_comm1 (a b : Int) : opI .add a b = opI .add b a := by
  unfold opI opN; rw [Fl.fb_add, Fl.fb_add, Fl.add_comm]
theorem ed_comm2 (a b : Int) : opI .mul a b = opI .mul b a := by
  unfold opI opN; rw [Fl.fb_mul, Fl.fb_mul, Fl.mul_comm]

set_option maxRecDepth 100000 in
set_option maxHeartbeats 8000000 in
theorem realEdges_nan (a b B S P Q : Int) (d1 : ∀ w, Calls Try.prog 19 #[.int .u64 a] w fun e w' => e = .returned (.int .u64 9221120237041090561) ∧ w = w')
    (d2 : ∀ w, Calls Try.prog 19 #[.int .u64 b] w fun e w' => e = .returned (.int .u64 B) ∧ w = w')
    (f1 : ∀ w, Calls Try.prog 10 #[.int .u64 9221120237041090561, .int .u64 0] w fun e w' => e = .returned (.int .u64 9221120237041090561) ∧ Below w.heap.size w w')
    (f2 : ∀ w, Calls Try.prog 14 #[.int .u64 9221120237041090561, .int .u64 4607182418800017408] w fun e w' => e = .returned (.int .u64 9221120237041090561) ∧ Below w.heap.size w w')
    (f3 : ∀ w, Calls Try.prog 16 #[.int .u64 9221120237041090561, .int .u64 4607182418800017408] w fun e w' => e = .returned (.int .u64 9221120237041090561) ∧ Below w.heap.size w w')
    (f4 : ∀ w, Calls Try.prog 12 #[.int .u64 9221120237041090561, .int .u64 9221120237041090561] w fun e w' => e = .returned (.int .u64 9221120237041090561) ∧ Below w.heap.size w w')
    (f5 : ∀ w, Calls Try.prog 10 #[.int .u64 9221120237041090561, .int .u64 9221120237041090561] w fun e w' => e = .returned (.int .u64 9221120237041090561) ∧ Below w.heap.size w w')
    (f6 : ∀ w, Calls Try.prog 14 #[.int .u64 9221120237041090561, .int .u64 B] w fun e w' => e = .returned (.int .u64 9221120237041090561) ∧ Below w.heap.size w w')
    (f7 : ∀ w, Calls Try.prog 10 #[.int .u64 9221120237041090561, .int .u64 B] w fun e w' => e = .returned (.int .u64 S) ∧ Below w.heap.size w w')
    (f8 : ∀ w, Calls Try.prog 10 #[.int .u64 B, .int .u64 9221120237041090561] w fun e w' => e = .returned (.int .u64 S) ∧ Below w.heap.size w w')
    (f9 : ∀ w, Calls Try.prog 14 #[.int .u64 9221120237041090561, .int .u64 B] w fun e w' => e = .returned (.int .u64 P) ∧ Below w.heap.size w w')
    (f10 : ∀ w, Calls Try.prog 14 #[.int .u64 B, .int .u64 9221120237041090561] w fun e w' => e = .returned (.int .u64 P) ∧ Below w.heap.size w w')
    (f11 : ∀ w, Calls Try.prog 14 #[.int .u64 9221120237041090561, .int .u64 13830554455654793216] w fun e w' => e = .returned (.int .u64 9221120237041090561) ∧ Below w.heap.size w w')
    (f12 : ∀ w, Calls Try.prog 16 #[.int .u64 9221120237041090561, .int .u64 B] w fun e w' => e = .returned (.int .u64 Q) ∧ Below w.heap.size w w')
    (f13 : ∀ w, Calls Try.prog 21 #[.int .u64 Q] w fun e w' => e = .returned (.bool true) ∧ w = w') (w : World) :
    Calls Try.prog 7 #[.int .u64 a, .int .u64 b] w fun e w' => e = .returned (.bool true) ∧ Below w.heap.size w w' := by
  go_enter Try.func7, Try.ntmps7
  go_wp2_with fail
  refine (d1 _).mono ?_
  rintro e w' ⟨rfl, rfl⟩
  go_wp2_with fail
  refine (d2 _).mono ?_
  rintro e w' ⟨rfl, rfl⟩
  go_wp2_with fail
  refine (f1 _).mono ?_
  rintro e w1 ⟨rfl, hb1⟩
  go_wp2_with fail
  refine (f2 _).mono ?_
  rintro e w2 ⟨rfl, hb2⟩
  go_wp2_with fail
  refine (f3 _).mono ?_
  rintro e w3 ⟨rfl, hb3⟩
  go_wp2_with fail
  refine (f4 _).mono ?_
  rintro e w4 ⟨rfl, hb4⟩
  go_wp2_with fail
  refine (f5 _).mono ?_
  rintro e w5 ⟨rfl, hb5⟩
  go_wp2_with fail
  refine (f6 _).mono ?_
  rintro e w6 ⟨rfl, hb6⟩
  go_wp2_with fail
  refine (f7 _).mono ?_
  rintro e w7 ⟨rfl, hb7⟩
  go_wp2_with fail
  refine (f8 _).mono ?_
  rintro e w8 ⟨rfl, hb8⟩
  go_wp2_with fail
  refine (f9 _).mono ?_
  rintro e w9 ⟨rfl, hb9⟩
  go_wp2_with fail
  refine (f10 _).mono ?_
  rintro e w10 ⟨rfl, hb10⟩
  go_wp2_with fail
  refine (f11 _).mono ?_
  rintro e w11 ⟨rfl, hb11⟩
  go_wp2_with fail
  refine (f12 _).mono ?_
  rintro e w12 ⟨rfl, hb12⟩
  go_wp2_with fail
  refine (f13 _).mono ?_
  rintro e w' ⟨rfl, rfl⟩
  go_wp2_with fail
  refine (awake_flt _).mono ?_
  rintro e w13 ⟨rfl, hb13⟩
  go_wp2
  go_ret
  have e1 := hb1
  have e2 := e1.trans (hb2.mono e1.size)
  have e3 := e2.trans (hb3.mono e2.size)
  have e4 := e3.trans (hb4.mono e3.size)
  have e5 := e4.trans (hb5.mono e4.size)
  have e6 := e5.trans (hb6.mono e5.size)
  have e7 := e6.trans (hb7.mono e6.size)
  have e8 := e7.trans (hb8.mono e7.size)
  have e9 := e8.trans (hb9.mono e8.size)
  have e10 := e9.trans (hb10.mono e9.size)
  have e11 := e10.trans (hb11.mono e10.size)
  have e12 := e11.trans (hb12.mono e11.size)
  have e13 := e12.trans (hb13.mono e12.size)
  exact ⟨rfl, e13⟩

set_option maxRecDepth 100000 in
set_option maxHeartbeats 8000000 in
theorem realEdges_zero (a b B S P Q Z : Int) (d1 : ∀ w, Calls Try.prog 19 #[.int .u64 a] w fun e w' => e = .returned (.int .u64 9223372036854775808) ∧ w = w')
    (d2 : ∀ w, Calls Try.prog 19 #[.int .u64 b] w fun e w' => e = .returned (.int .u64 B) ∧ w = w')
    (bf : bits .xor .u64 9223372036854775808 9223372036854775808 = Z)
    (bx : bits .andNot .u64 9223372036854775808 9223372036854775808 = 0)
    (f1 : ∀ w, Calls Try.prog 10 #[.int .u64 9223372036854775808, .int .u64 0] w fun e w' => e = .returned (.int .u64 0) ∧ Below w.heap.size w w')
    (f2 : ∀ w, Calls Try.prog 14 #[.int .u64 9223372036854775808, .int .u64 4607182418800017408] w fun e w' => e = .returned (.int .u64 9223372036854775808) ∧ Below w.heap.size w w')
    (f3 : ∀ w, Calls Try.prog 16 #[.int .u64 9223372036854775808, .int .u64 4607182418800017408] w fun e w' => e = .returned (.int .u64 9223372036854775808) ∧ Below w.heap.size w w')
    (f4 : ∀ w, Calls Try.prog 12 #[.int .u64 9223372036854775808, .int .u64 9223372036854775808] w fun e w' => e = .returned (.int .u64 0) ∧ Below w.heap.size w w')
    (f5 : ∀ w, Calls Try.prog 10 #[.int .u64 9223372036854775808, .int .u64 9221120237041090561] w fun e w' => e = .returned (.int .u64 9221120237041090561) ∧ Below w.heap.size w w')
    (f6 : ∀ w, Calls Try.prog 14 #[.int .u64 9221120237041090561, .int .u64 B] w fun e w' => e = .returned (.int .u64 9221120237041090561) ∧ Below w.heap.size w w')
    (f7 : ∀ w, Calls Try.prog 10 #[.int .u64 9223372036854775808, .int .u64 B] w fun e w' => e = .returned (.int .u64 S) ∧ Below w.heap.size w w')
    (f8 : ∀ w, Calls Try.prog 10 #[.int .u64 B, .int .u64 9223372036854775808] w fun e w' => e = .returned (.int .u64 S) ∧ Below w.heap.size w w')
    (f9 : ∀ w, Calls Try.prog 14 #[.int .u64 9223372036854775808, .int .u64 B] w fun e w' => e = .returned (.int .u64 P) ∧ Below w.heap.size w w')
    (f10 : ∀ w, Calls Try.prog 14 #[.int .u64 B, .int .u64 9223372036854775808] w fun e w' => e = .returned (.int .u64 P) ∧ Below w.heap.size w w')
    (f11 : ∀ w, Calls Try.prog 14 #[.int .u64 9223372036854775808, .int .u64 13830554455654793216] w fun e w' => e = .returned (.int .u64 Z) ∧ Below w.heap.size w w')
    (f12 : ∀ w, Calls Try.prog 16 #[.int .u64 9223372036854775808, .int .u64 B] w fun e w' => e = .returned (.int .u64 Q) ∧ Below w.heap.size w w')
    (f13 : ∀ w, Calls Try.prog 21 #[.int .u64 Q] w fun e w' => e = .returned (.bool true) ∧ w = w') (w : World) :
    Calls Try.prog 7 #[.int .u64 a, .int .u64 b] w fun e w' => e = .returned (.bool true) ∧ Below w.heap.size w w' := by
  go_enter Try.func7, Try.ntmps7
  go_wp2_with fail
  refine (d1 _).mono ?_
  rintro e w' ⟨rfl, rfl⟩
  go_wp2_with fail
  refine (d2 _).mono ?_
  rintro e w' ⟨rfl, rfl⟩
  go_wp2_with fail
  refine (f1 _).mono ?_
  rintro e w1 ⟨rfl, hb1⟩
  go_wp2_with fail
  refine (f2 _).mono ?_
  rintro e w2 ⟨rfl, hb2⟩
  go_wp2_with fail
  refine (f3 _).mono ?_
  rintro e w3 ⟨rfl, hb3⟩
  go_wp2_with fail
  refine (f4 _).mono ?_
  rintro e w4 ⟨rfl, hb4⟩
  go_wp2_with fail
  refine (f5 _).mono ?_
  rintro e w5 ⟨rfl, hb5⟩
  go_wp2_with fail
  refine (f6 _).mono ?_
  rintro e w6 ⟨rfl, hb6⟩
  go_wp2_with fail
  refine (f7 _).mono ?_
  rintro e w7 ⟨rfl, hb7⟩
  go_wp2_with fail
  refine (f8 _).mono ?_
  rintro e w8 ⟨rfl, hb8⟩
  go_wp2_with fail
  refine (f9 _).mono ?_
  rintro e w9 ⟨rfl, hb9⟩
  go_wp2_with fail
  refine (f10 _).mono ?_
  rintro e w10 ⟨rfl, hb10⟩
  go_wp2_with fail
  refine (f11 _).mono ?_
  rintro e w11 ⟨rfl, hb11⟩
  go_wp2_with fail
  refine (f12 _).mono ?_
  rintro e w12 ⟨rfl, hb12⟩
  go_wp2_with fail
  refine (f13 _).mono ?_
  rintro e w' ⟨rfl, rfl⟩
  go_wp2_with fail
  refine (awake_flt _).mono ?_
  rintro e w13 ⟨rfl, hb13⟩
  go_wp2
  go_ret
  have e1 := hb1
  have e2 := e1.trans (hb2.mono e1.size)
  have e3 := e2.trans (hb3.mono e2.size)
  have e4 := e3.trans (hb4.mono e3.size)
  have e5 := e4.trans (hb5.mono e4.size)
  have e6 := e5.trans (hb6.mono e5.size)
  have e7 := e6.trans (hb7.mono e6.size)
  have e8 := e7.trans (hb8.mono e7.size)
  have e9 := e8.trans (hb9.mono e8.size)
  have e10 := e9.trans (hb10.mono e9.size)
  have e11 := e10.trans (hb11.mono e10.size)
  have e12 := e11.trans (hb12.mono e11.size)
  have e13 := e12.trans (hb13.mono e12.size)
  exact ⟨rfl, e13⟩

set_option maxRecDepth 100000 in
set_option maxHeartbeats 8000000 in
theorem realEdges_inf (a b A B S P Q Z : Int) (b1 : (A == 9223372036854775808) = false) (b2 : (A == 9221120237041090561) = false) (b3 : ((Fl.rg A.toNat : Nat) : Int) = 9218868437227405312) (d1 : ∀ w, Calls Try.prog 19 #[.int .u64 a] w fun e w' => e = .returned (.int .u64 A) ∧ w = w')
    (d2 : ∀ w, Calls Try.prog 19 #[.int .u64 b] w fun e w' => e = .returned (.int .u64 B) ∧ w = w')
    (bx : bits .andNot .u64 A 9223372036854775808 = (Fl.rg A.toNat : Nat))
    (bf : bits .xor .u64 A 9223372036854775808 = Z)
    (f1 : ∀ w, Calls Try.prog 10 #[.int .u64 A, .int .u64 0] w fun e w' => e = .returned (.int .u64 A) ∧ Below w.heap.size w w')
    (f2 : ∀ w, Calls Try.prog 14 #[.int .u64 A, .int .u64 4607182418800017408] w fun e w' => e = .returned (.int .u64 A) ∧ Below w.heap.size w w')
    (f3 : ∀ w, Calls Try.prog 16 #[.int .u64 A, .int .u64 4607182418800017408] w fun e w' => e = .returned (.int .u64 A) ∧ Below w.heap.size w w')
    (f4 : ∀ w, Calls Try.prog 12 #[.int .u64 A, .int .u64 A] w fun e w' => e = .returned (.int .u64 9221120237041090561) ∧ Below w.heap.size w w')
    (f5 : ∀ w, Calls Try.prog 10 #[.int .u64 A, .int .u64 9221120237041090561] w fun e w' => e = .returned (.int .u64 9221120237041090561) ∧ Below w.heap.size w w')
    (f6 : ∀ w, Calls Try.prog 14 #[.int .u64 9221120237041090561, .int .u64 B] w fun e w' => e = .returned (.int .u64 9221120237041090561) ∧ Below w.heap.size w w')
    (f7 : ∀ w, Calls Try.prog 10 #[.int .u64 A, .int .u64 B] w fun e w' => e = .returned (.int .u64 S) ∧ Below w.heap.size w w')
    (f8 : ∀ w, Calls Try.prog 10 #[.int .u64 B, .int .u64 A] w fun e w' => e = .returned (.int .u64 S) ∧ Below w.heap.size w w')
    (f9 : ∀ w, Calls Try.prog 14 #[.int .u64 A, .int .u64 B] w fun e w' => e = .returned (.int .u64 P) ∧ Below w.heap.size w w')
    (f10 : ∀ w, Calls Try.prog 14 #[.int .u64 B, .int .u64 A] w fun e w' => e = .returned (.int .u64 P) ∧ Below w.heap.size w w')
    (f11 : ∀ w, Calls Try.prog 14 #[.int .u64 A, .int .u64 13830554455654793216] w fun e w' => e = .returned (.int .u64 Z) ∧ Below w.heap.size w w')
    (f12 : ∀ w, Calls Try.prog 16 #[.int .u64 A, .int .u64 B] w fun e w' => e = .returned (.int .u64 Q) ∧ Below w.heap.size w w')
    (f13 : ∀ w, Calls Try.prog 21 #[.int .u64 Q] w fun e w' => e = .returned (.bool true) ∧ w = w') (w : World) :
    Calls Try.prog 7 #[.int .u64 a, .int .u64 b] w fun e w' => e = .returned (.bool true) ∧ Below w.heap.size w w' := by
  go_enter Try.func7, Try.ntmps7
  go_wp2_with fail
  refine (d1 _).mono ?_
  rintro e w' ⟨rfl, rfl⟩
  go_wp2_with fail
  refine (d2 _).mono ?_
  rintro e w' ⟨rfl, rfl⟩
  go_wp2_with fail
  refine (f1 _).mono ?_
  rintro e w1 ⟨rfl, hb1⟩
  go_wp2_with fail
  refine (f2 _).mono ?_
  rintro e w2 ⟨rfl, hb2⟩
  go_wp2_with fail
  refine (f3 _).mono ?_
  rintro e w3 ⟨rfl, hb3⟩
  go_wp2_with fail
  refine (f4 _).mono ?_
  rintro e w4 ⟨rfl, hb4⟩
  go_wp2_with fail
  refine (f5 _).mono ?_
  rintro e w5 ⟨rfl, hb5⟩
  go_wp2_with fail
  refine (f6 _).mono ?_
  rintro e w6 ⟨rfl, hb6⟩
  go_wp2_with fail
  refine (f7 _).mono ?_
  rintro e w7 ⟨rfl, hb7⟩
  go_wp2_with fail
  refine (f8 _).mono ?_
  rintro e w8 ⟨rfl, hb8⟩
  go_wp2_with fail
  refine (f9 _).mono ?_
  rintro e w9 ⟨rfl, hb9⟩
  go_wp2_with fail
  refine (f10 _).mono ?_
  rintro e w10 ⟨rfl, hb10⟩
  go_wp2_with fail
  refine (f11 _).mono ?_
  rintro e w11 ⟨rfl, hb11⟩
  go_wp2_with fail
  refine (f12 _).mono ?_
  rintro e w12 ⟨rfl, hb12⟩
  go_wp2_with fail
  refine (f13 _).mono ?_
  rintro e w' ⟨rfl, rfl⟩
  go_wp2_with fail
  refine (awake_flt _).mono ?_
  rintro e w13 ⟨rfl, hb13⟩
  go_wp2
  go_ret
  have e1 := hb1
  have e2 := e1.trans (hb2.mono e1.size)
  have e3 := e2.trans (hb3.mono e2.size)
  have e4 := e3.trans (hb4.mono e3.size)
  have e5 := e4.trans (hb5.mono e4.size)
  have e6 := e5.trans (hb6.mono e5.size)
  have e7 := e6.trans (hb7.mono e6.size)
  have e8 := e7.trans (hb8.mono e7.size)
  have e9 := e8.trans (hb9.mono e8.size)
  have e10 := e9.trans (hb10.mono e9.size)
  have e11 := e10.trans (hb11.mono e10.size)
  have e12 := e11.trans (hb12.mono e11.size)
  have e13 := e12.trans (hb13.mono e12.size)
  exact ⟨rfl, e13⟩

set_option maxRecDepth 100000 in
set_option maxHeartbeats 8000000 in
theorem realEdges_num (a b A B S P Q Z : Int) (b1 : (A == 9223372036854775808) = false) (b2 : (A == 9221120237041090561) = false) (b3 : (((Fl.rg A.toNat : Nat) : Int) == 9218868437227405312) = false) (d1 : ∀ w, Calls Try.prog 19 #[.int .u64 a] w fun e w' => e = .returned (.int .u64 A) ∧ w = w')
    (d2 : ∀ w, Calls Try.prog 19 #[.int .u64 b] w fun e w' => e = .returned (.int .u64 B) ∧ w = w')
    (bx : bits .andNot .u64 A 9223372036854775808 = (Fl.rg A.toNat : Nat))
    (bf : bits .xor .u64 A 9223372036854775808 = Z)
    (f1 : ∀ w, Calls Try.prog 10 #[.int .u64 A, .int .u64 0] w fun e w' => e = .returned (.int .u64 A) ∧ Below w.heap.size w w')
    (f2 : ∀ w, Calls Try.prog 14 #[.int .u64 A, .int .u64 4607182418800017408] w fun e w' => e = .returned (.int .u64 A) ∧ Below w.heap.size w w')
    (f3 : ∀ w, Calls Try.prog 16 #[.int .u64 A, .int .u64 4607182418800017408] w fun e w' => e = .returned (.int .u64 A) ∧ Below w.heap.size w w')
    (f4 : ∀ w, Calls Try.prog 12 #[.int .u64 A, .int .u64 A] w fun e w' => e = .returned (.int .u64 0) ∧ Below w.heap.size w w')
    (f5 : ∀ w, Calls Try.prog 10 #[.int .u64 A, .int .u64 9221120237041090561] w fun e w' => e = .returned (.int .u64 9221120237041090561) ∧ Below w.heap.size w w')
    (f6 : ∀ w, Calls Try.prog 14 #[.int .u64 9221120237041090561, .int .u64 B] w fun e w' => e = .returned (.int .u64 9221120237041090561) ∧ Below w.heap.size w w')
    (f7 : ∀ w, Calls Try.prog 10 #[.int .u64 A, .int .u64 B] w fun e w' => e = .returned (.int .u64 S) ∧ Below w.heap.size w w')
    (f8 : ∀ w, Calls Try.prog 10 #[.int .u64 B, .int .u64 A] w fun e w' => e = .returned (.int .u64 S) ∧ Below w.heap.size w w')
    (f9 : ∀ w, Calls Try.prog 14 #[.int .u64 A, .int .u64 B] w fun e w' => e = .returned (.int .u64 P) ∧ Below w.heap.size w w')
    (f10 : ∀ w, Calls Try.prog 14 #[.int .u64 B, .int .u64 A] w fun e w' => e = .returned (.int .u64 P) ∧ Below w.heap.size w w')
    (f11 : ∀ w, Calls Try.prog 14 #[.int .u64 A, .int .u64 13830554455654793216] w fun e w' => e = .returned (.int .u64 Z) ∧ Below w.heap.size w w')
    (f12 : ∀ w, Calls Try.prog 16 #[.int .u64 A, .int .u64 B] w fun e w' => e = .returned (.int .u64 Q) ∧ Below w.heap.size w w')
    (f13 : ∀ w, Calls Try.prog 21 #[.int .u64 Q] w fun e w' => e = .returned (.bool true) ∧ w = w') (w : World) :
    Calls Try.prog 7 #[.int .u64 a, .int .u64 b] w fun e w' => e = .returned (.bool true) ∧ Below w.heap.size w w' := by
  go_enter Try.func7, Try.ntmps7
  go_wp2_with fail
  refine (d1 _).mono ?_
  rintro e w' ⟨rfl, rfl⟩
  go_wp2_with fail
  refine (d2 _).mono ?_
  rintro e w' ⟨rfl, rfl⟩
  go_wp2_with fail
  refine (f1 _).mono ?_
  rintro e w1 ⟨rfl, hb1⟩
  go_wp2_with fail
  refine (f2 _).mono ?_
  rintro e w2 ⟨rfl, hb2⟩
  go_wp2_with fail
  refine (f3 _).mono ?_
  rintro e w3 ⟨rfl, hb3⟩
  go_wp2_with fail
  refine (f4 _).mono ?_
  rintro e w4 ⟨rfl, hb4⟩
  go_wp2_with fail
  refine (f5 _).mono ?_
  rintro e w5 ⟨rfl, hb5⟩
  go_wp2_with fail
  refine (f6 _).mono ?_
  rintro e w6 ⟨rfl, hb6⟩
  go_wp2_with fail
  refine (f7 _).mono ?_
  rintro e w7 ⟨rfl, hb7⟩
  go_wp2_with fail
  refine (f8 _).mono ?_
  rintro e w8 ⟨rfl, hb8⟩
  go_wp2_with fail
  refine (f9 _).mono ?_
  rintro e w9 ⟨rfl, hb9⟩
  go_wp2_with fail
  refine (f10 _).mono ?_
  rintro e w10 ⟨rfl, hb10⟩
  go_wp2_with fail
  refine (f11 _).mono ?_
  rintro e w11 ⟨rfl, hb11⟩
  go_wp2_with fail
  refine (f12 _).mono ?_
  rintro e w12 ⟨rfl, hb12⟩
  go_wp2_with fail
  refine (f13 _).mono ?_
  rintro e w' ⟨rfl, rfl⟩
  go_wp2_with fail
  refine (awake_flt _).mono ?_
  rintro e w13 ⟨rfl, hb13⟩
  go_wp2
  go_ret
  have e1 := hb1
  have e2 := e1.trans (hb2.mono e1.size)
  have e3 := e2.trans (hb3.mono e2.size)
  have e4 := e3.trans (hb4.mono e3.size)
  have e5 := e4.trans (hb5.mono e4.size)
  have e6 := e5.trans (hb6.mono e5.size)
  have e7 := e6.trans (hb7.mono e6.size)
  have e8 := e7.trans (hb8.mono e7.size)
  have e9 := e8.trans (hb9.mono e8.size)
  have e10 := e9.trans (hb10.mono e9.size)
  have e11 := e10.trans (hb11.mono e10.size)
  have e12 := e11.trans (hb12.mono e11.size)
  have e13 := e12.trans (hb13.mono e12.size)
  exact ⟨rfl, e13⟩

theorem realEdges_walk (a b : Int) (h1 : U64 a) (h2 : U64 b) (w : World) :
    Calls Try.prog 7 #[.int .u64 a, .int .u64 b] w fun e w' => e = .returned (.bool true) ∧ Below w.heap.size w w' := by
  have ha := cl_clean h1
  have d1 := fun w => clean_any w a h1
  have d2 := fun w => clean_any w b h2
  clear h1 h2
  generalize cleanI a = A at *
  generalize cleanI b = B at *
  have bx := bits_andNot ha.u
  have bf := bits_xor ha.u
  by_cases c1 : A = 9221120237041090561
  · subst c1
    exact realEdges_nan a b B _ _ _ d1 d2 (fun w => by have := fAdd_any w 9221120237041090561 0; rwa [ed_add0 ha, if_neg (by decide)] at this) (fun w => by have := fMul_any w 9221120237041090561 4607182418800017408; rwa [ed_mul1 ha] at this) (fun w => by have := fDiv_any w 9221120237041090561 4607182418800017408; rwa [ed_div1 ha] at this) (fun w => by have := fSub_any w 9221120237041090561 9221120237041090561; rwa [ed_sub ha, if_pos (Or.inl rfl)] at this) (fun w => by have := fAdd_any w 9221120237041090561 9221120237041090561; rwa [ed_nan1] at this) (fun w => by have := fMul_any w 9221120237041090561 B; rwa [ed_nan2] at this) (fun w => fAdd_any w 9221120237041090561 B) (fun w => by have := fAdd_any w B 9221120237041090561; rwa [ed_comm1] at this) (fun w => fMul_any w 9221120237041090561 B) (fun w => by have := fMul_any w B 9221120237041090561; rwa [ed_comm2] at this) (fun w => by have := fMul_any w 9221120237041090561 13830554455654793216; rwa [ed_back ha, if_pos rfl] at this) (fun w => fDiv_any w 9221120237041090561 B) (fun w => by have := may_flt w _ (opI_u64 .quo 9221120237041090561 B); rwa [clean_cl (cl_op .quo 9221120237041090561 B), beq_self_eq_true] at this) w
  · by_cases c2 : A = 9223372036854775808
    · subst c2
      exact realEdges_zero a b B _ _ _ _ d1 d2 bf bx (fun w => by have := fAdd_any w 9223372036854775808 0; rwa [ed_add0 ha, if_pos rfl] at this) (fun w => by have := fMul_any w 9223372036854775808 4607182418800017408; rwa [ed_mul1 ha] at this) (fun w => by have := fDiv_any w 9223372036854775808 4607182418800017408; rwa [ed_div1 ha] at this) (fun w => by have := fSub_any w 9223372036854775808 9223372036854775808; rwa [ed_sub ha, if_neg (by decide)] at this) (fun w => by have := fAdd_any w 9223372036854775808 9221120237041090561; rwa [ed_nan1] at this) (fun w => by have := fMul_any w 9221120237041090561 B; rwa [ed_nan2] at this) (fun w => fAdd_any w 9223372036854775808 B) (fun w => by have := fAdd_any w B 9223372036854775808; rwa [ed_comm1] at this) (fun w => fMul_any w 9223372036854775808 B) (fun w => by have := fMul_any w B 9223372036854775808; rwa [ed_comm2] at this) (fun w => by have := fMul_any w 9223372036854775808 13830554455654793216; rwa [ed_back ha, if_neg (by decide)] at this) (fun w => fDiv_any w 9223372036854775808 B) (fun w => by have := may_flt w _ (opI_u64 .quo 9223372036854775808 B); rwa [clean_cl (cl_op .quo 9223372036854775808 B), beq_self_eq_true] at this) w
    · by_cases c3 : Fl.rg A.toNat = Fl.INF
      · exact realEdges_inf a b A B _ _ _ _ (beq_eq_false_iff_ne.2 c2) (beq_eq_false_iff_ne.2 c1) (by rw [c3]; rfl) d1 d2 bx bf (fun w => by have := fAdd_any w A 0; rwa [ed_add0 ha, if_neg c2] at this) (fun w => by have := fMul_any w A 4607182418800017408; rwa [ed_mul1 ha] at this) (fun w => by have := fDiv_any w A 4607182418800017408; rwa [ed_div1 ha] at this) (fun w => by have := fSub_any w A A; rwa [ed_sub ha, if_pos (Or.inr c3)] at this) (fun w => by have := fAdd_any w A 9221120237041090561; rwa [ed_nan1] at this) (fun w => by have := fMul_any w 9221120237041090561 B; rwa [ed_nan2] at this) (fun w => fAdd_any w A B) (fun w => by have := fAdd_any w B A; rwa [ed_comm1] at this) (fun w => fMul_any w A B) (fun w => by have := fMul_any w B A; rwa [ed_comm2] at this) (fun w => by have := fMul_any w A 13830554455654793216; rwa [ed_back ha, if_neg c1] at this) (fun w => fDiv_any w A B) (fun w => by have := may_flt w _ (opI_u64 .quo A B); rwa [clean_cl (cl_op .quo A B), beq_self_eq_true] at this) w
      · exact realEdges_num a b A B _ _ _ _ (beq_eq_false_iff_ne.2 c2) (beq_eq_false_iff_ne.2 c1) (by rw [beq_eq_false_iff_ne]; have : Fl.INF = 9218868437227405312 := rfl; omega) d1 d2 bx bf (fun w => by have := fAdd_any w A 0; rwa [ed_add0 ha, if_neg c2] at this) (fun w => by have := fMul_any w A 4607182418800017408; rwa [ed_mul1 ha] at this) (fun w => by have := fDiv_any w A 4607182418800017408; rwa [ed_div1 ha] at this) (fun w => by have := fSub_any w A A; rwa [ed_sub ha, if_neg (fun h => h.elim c1 c3)] at this) (fun w => by have := fAdd_any w A 9221120237041090561; rwa [ed_nan1] at this) (fun w => by have := fMul_any w 9221120237041090561 B; rwa [ed_nan2] at this) (fun w => fAdd_any w A B) (fun w => by have := fAdd_any w B A; rwa [ed_comm1] at this) (fun w => fMul_any w A B) (fun w => by have := fMul_any w B A; rwa [ed_comm2] at this) (fun w => by have := fMul_any w A 13830554455654793216; rwa [ed_back ha, if_neg c1] at this) (fun w => fDiv_any w A B) (fun w => by have := may_flt w _ (opI_u64 .quo A B); rwa [clean_cl (cl_op .quo A B), beq_self_eq_true] at this) w
end Go.Proofs.Ytgencmjdejgkoaa
