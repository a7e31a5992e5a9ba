/-
  THE LAW RealEdges.
-/
import Derived.Test.YtompimbeaeinbaaGreatFltM
import Derived.Test.YtompimbeaeinbaaGreatLawROrder
namespace Go.Proofs.YtompimbeaeinbaaGreat
open Go.RowKit

set_option maxRecDepth 100000 in
theorem Cl.num {a : Int} (h : Cl a) : a = 9221120237041090561 ∨ (a ≠ 9221120237041090561 ∧ Fl.nanB a.toNat = false) := by
  by_cases e : a = 9221120237041090561
  · exact Or.inl e
  · refine Or.inr ⟨e, ?_⟩
    cases hn : Fl.nanB a.toNat with
    | false => rfl
    | true => exact absurd (h.n hn) e
set_option maxRecDepth 100000 in
theorem opN_none {op : BinOp} {a b : Nat} (h : floatBits op .f64 a b = none) : opN op a b = 9221120237041090561 := by unfold opN; rw [h]; rfl
set_option maxRecDepth 100000 in
theorem opN_some {op : BinOp} {a b r : Nat} (h : floatBits op .f64 a b = some r) : opN op a b = r := by unfold opN; rw [h]; rfl
set_option maxRecDepth 100000 in
theorem toNat_back {a : Int} (h : U64 a) : ((a.toNat : Nat) : Int) = a := Int.toNat_of_nonneg h.1
set_option maxRecDepth 100000 in
theorem NANn : (9221120237041090561 : Int).toNat = Fl.NAN := rfl
set_option maxRecDepth 100000 in
theorem nanNAN : Fl.nanB Fl.NAN = true := by decide
set_option maxRecDepth 100000 in
theorem cl_op (op : BinOp) (a b : Int) : Cl (opI op a b) := by
  refine ⟨opI_u64 op a b, fun hn => ?_⟩
  unfold opI at hn ⊢
  rw [Int.toNat_natCast] at hn
  cases h : floatBits op .f64 a.toNat b.toNat with
  | none => rw [opN_none h]; rfl
  | some r =>
    rw [opN_some h, Fl.floatBits_num h] at hn
    cases hn
set_option maxRecDepth 100000 in
theorem clean_cl {a : Int} (h : Cl a) : cleanI a = a := by
  unfold cleanI cleanN
  split
  · rename_i hn; rw [h.n hn]; rfl
  · exact toNat_back h.u

section
variable {a b : Int} (ha : Cl a)
include ha
set_option maxRecDepth 100000 in
theorem ed_add0 : opI .add a 0 = if a = 9223372036854775808 then 0 else a := by
  unfold opI
  rcases ha.num with e | ⟨e, hn⟩
  · subst e
    rw [opN_none (by rw [Fl.fb_add]; exact Fl.nan_add (Or.inl nan_NAN)), if_neg (by decide)]; rfl
  · rw [show (0 : Int).toNat = 0 from rfl, opN_some ((Fl.fb_add _ _).trans (Fl.add_zero ha.u.nat hn))]
    have h1 := toNat_back ha.u
    have e1 : Fl.S = 9223372036854775808 := rfl
    by_cases h : a = 9223372036854775808
    · rw [if_pos h, if_pos (by rw [e1]; omega)]; rfl
    · rw [if_neg h, if_neg (by rw [e1]; omega)]; exact h1
set_option maxRecDepth 100000 in
theorem ed_mul1 : opI .mul a 4607182418800017408 = a := by
  unfold opI
  rcases ha.num with e | ⟨e, hn⟩
  · subst e
    rw [opN_none (by rw [Fl.fb_mul]; exact Fl.nan_mul (Or.inl nan_NAN))]; rfl
  · rw [show (4607182418800017408 : Int).toNat = Fl.ONE from rfl, opN_some ((Fl.fb_mul _ _).trans (Fl.mul_one_any ha.u.nat hn))]
    exact toNat_back ha.u
set_option maxRecDepth 100000 in
theorem ed_div1 : opI .quo a 4607182418800017408 = a := by
  unfold opI
  rcases ha.num with e | ⟨e, hn⟩
  · subst e
    rw [opN_none (by rw [Fl.fb_quo]; exact Fl.nan_div (Or.inl nan_NAN))]; rfl
  · rw [show (4607182418800017408 : Int).toNat = Fl.ONE from rfl, opN_some ((Fl.fb_quo _ _).trans (Fl.div_one ha.u.nat hn))]
    exact toNat_back ha.u
set_option maxRecDepth 100000 in
theorem ed_sub : opI .sub a a = if a = 9221120237041090561 ∨ Fl.rg a.toNat = Fl.INF then 9221120237041090561 else 0 := by
  unfold opI
  rcases ha.num with e | ⟨e, hn⟩
  · subst e
    rw [if_pos (Or.inl rfl), opN_none (by rw [Fl.fb_sub, Fl.sub_eq_add]; exact Fl.nan_add (Or.inl nan_NAN))]; rfl
  · rcases Fl.fin_or hn with hf | hf
    · rw [if_neg (by rintro (h | h); exact e h; omega), opN_some ((Fl.fb_sub _ _).trans (Fl.sub_self hf))]; rfl
    · rw [if_pos (Or.inr hf), opN_none ((Fl.fb_sub _ _).trans (Fl.sub_inf hf))]; rfl
set_option maxRecDepth 100000 in
theorem ed_back : opI .mul a 13830554455654793216 = if a = 9221120237041090561 then a else (Fl.flip a.toNat : Nat) := by
  unfold opI
  rcases ha.num with e | ⟨e, hn⟩
  · subst e
    rw [opN_none (by rw [Fl.fb_mul]; exact Fl.nan_mul (Or.inl nan_NAN)), if_pos rfl]; rfl
  · rw [if_neg e]
    have h1 : (13830554455654793216 : Int).toNat = Fl.flip Fl.ONE := by decide
    rw [h1, opN_some ((Fl.fb_mul _ _).trans (by rw [Fl.mul_flip, Fl.mul_one_any ha.u.nat hn]; rfl))]
end
set_option maxRecDepth 100000 in
theorem ed_nan1 (a : Int) : opI .add a 9221120237041090561 = 9221120237041090561 := by
  unfold opI
  rw [opN_none (by rw [Fl.fb_add]; exact Fl.nan_add (Or.inr nan_NAN))]; rfl
set_option maxRecDepth 100000 in
theorem ed_nan2 (b : Int) : opI .mul 9221120237041090561 b = 9221120237041090561 := by
  unfold opI
  rw [opN_none (by rw [Fl.fb_mul]; exact Fl.nan_mul (Or.inl nan_NAN))]; rfl
set_option maxRecDepth 100000 in
theorem ed_comm1 (a b : Int) : opI .add a b = opI .add b a := by
  unfold opI opN; rw [Fl.fb_add, Fl.fb_add, Fl.add_comm]
set_option maxRecDepth 100000 in
theorem ed_comm2 (a b : Int) : opI .mul a b = opI .mul b a := by
  unfold opI opN; rw [Fl.fb_mul, Fl.fb_mul, Fl.mul_comm]

end Go.Proofs.YtompimbeaeinbaaGreat
