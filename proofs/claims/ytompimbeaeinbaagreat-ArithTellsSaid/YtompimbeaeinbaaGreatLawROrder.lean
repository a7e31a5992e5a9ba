/-
  THE LAW RealOrder.
-/
import Derived.Test.YtompimbeaeinbaaGreatFltAw
import Derived.Test.YtompimbeaeinbaaGreatFltX
namespace Go.Proofs.YtompimbeaeinbaaGreat
open Go.RowKit

set_option maxRecDepth 100000 in
theorem nan_NAN : Fl.nanB (9221120237041090561 : Int).toNat = true := by decide
set_option maxRecDepth 100000 in
theorem cl_clean {a : Int} (h : U64 a) : Cl (cleanI a) := by
  refine ⟨cleanI_u64 h, fun hn => ?_⟩
  unfold cleanI cleanN at hn ⊢
  split
  · rfl
  · rename_i h1
    rw [if_neg h1, Int.toNat_natCast] at hn
    exact absurd hn h1
set_option maxRecDepth 100000 in
theorem cmpI_anti (a b : Int) : cmpI b a = -cmpI a b := by
  unfold cmpI cmpN
  generalize keyZ a.toNat = x
  generalize keyZ b.toNat = y
  rcases Int.lt_trichotomy x y with h | h | h
  · rw [if_neg (by omega), if_pos h, if_pos h]; rfl
  · subst h
    rw [if_neg (by omega), if_neg (by omega)]; rfl
  · rw [if_pos h, if_neg (by omega), if_pos h]
set_option maxRecDepth 100000 in
theorem cmpI_lt {a b : Int} : cmpI a b = -1 ↔ keyZ a.toNat < keyZ b.toNat := by
  unfold cmpI cmpN; split
  · simp; assumption
  · split <;> simp <;> omega
set_option maxRecDepth 100000 in
theorem cmpI_gt {a b : Int} : cmpI a b = 1 ↔ keyZ b.toNat < keyZ a.toNat := by
  unfold cmpI cmpN; split
  · simp; omega
  · split
    · simp; assumption
    · simp; omega
set_option maxRecDepth 100000 in
theorem cmpI_eq {a b : Int} : cmpI a b = 0 ↔ keyZ a.toNat = keyZ b.toNat := by
  unfold cmpI cmpN; split
  · simp; omega
  · split
    · simp; omega
    · simp; omega
set_option maxRecDepth 100000 in
theorem cmpI_3 (a b : Int) : cmpI a b = -1 ∨ cmpI a b = 0 ∨ cmpI a b = 1 := by
  unfold cmpI cmpN; split
  · exact Or.inl rfl
  · split
    · exact Or.inr (Or.inr rfl)
    · exact Or.inr (Or.inl rfl)
set_option maxRecDepth 100000 in
theorem key_inj {a b : Int} (ha : Cl a) (hb : Cl b) (h : keyZ a.toNat = keyZ b.toNat) : a = b := by
  cases na : Fl.nanB a.toNat with
  | true =>
    cases nb : Fl.nanB b.toNat with
    | true => rw [ha.n na, hb.n nb]
    | false => have := keyZ_lt nb; rw [keyZ_nan na] at h; omega
  | false =>
    cases nb : Fl.nanB b.toNat with
    | true => have := keyZ_lt na; rw [keyZ_nan nb] at h; omega
    | false =>
      have s1 := Fl.split_eq _ ha.u.nat
      have s2 := Fl.split_eq _ hb.u.nat
      have h1 := ha.u.1
      have h2 := hb.u.1
      unfold keyZ at h
      rw [na, nb] at h
      simp only [Bool.false_eq_true, if_false] at h
      cases g1 : Fl.ng a.toNat <;> cases g2 : Fl.ng b.toNat <;> rw [g1] at s1 h <;> rw [g2] at s2 h <;> simp only [Bool.false_eq_true, if_false, if_true] at s1 s2 h <;> omega
set_option maxRecDepth 100000 in
theorem f64_order_nan {a b : Nat} (h : Fl.nanB a = true ∨ Fl.nanB b = true) : FloatKind.f64.format.order a b = none := Fl.order_nan h
set_option maxRecDepth 100000 in
theorem gt_false {a b : Int} (h : keyZ a.toNat ≤ keyZ b.toNat) : (FloatKind.f64.format.order a.toNat b.toNat == some .gt) = false := by
  cases na : Fl.nanB a.toNat with
  | true => rw [f64_order_nan (Or.inl na)]; rfl
  | false =>
    cases nb : Fl.nanB b.toNat with
    | true => rw [f64_order_nan (Or.inr nb)]; rfl
    | false =>
      rw [flt_gt na nb, decide_eq_false_iff_not]
      intro hs
      have := key_mono hs
      rw [keyZ_num na, keyZ_num nb] at h
      omega
set_option maxRecDepth 100000 in
theorem lt_false {a b : Int} (h : keyZ b.toNat ≤ keyZ a.toNat) : (FloatKind.f64.format.order a.toNat b.toNat == some .lt) = false := by
  cases na : Fl.nanB a.toNat with
  | true => rw [f64_order_nan (Or.inl na)]; rfl
  | false =>
    cases nb : Fl.nanB b.toNat with
    | true => rw [f64_order_nan (Or.inr nb)]; rfl
    | false =>
      rw [flt_lt na nb, decide_eq_false_iff_not]
      intro hs
      have := key_mono hs
      rw [keyZ_num na, keyZ_num nb] at h
      omega
set_option maxRecDepth 100000 in
theorem nan_top {a : Int} (ha : Cl a) (h : a ≠ 9221120237041090561) : cmpI a 9221120237041090561 = -1 := by
  rw [cmpI_lt, keyZ_nan nan_NAN]
  cases na : Fl.nanB a.toNat with
  | true => exact absurd (ha.n na) h
  | false => exact keyZ_lt na
set_option maxRecDepth 100000 in
theorem u64_NAN : U64 9221120237041090561 := by unfold U64; decide

/-- What the law asks of three that are compared. -/
structure Tri (x y z : Int) : Prop where
  le : x ≤ 0 → y ≤ 0 → ¬ 0 < z
  ge : 0 ≤ x → 0 ≤ y → ¬ z < 0
set_option maxRecDepth 100000 in
theorem tri (a b c : Int) : Tri (cmpI a b) (cmpI b c) (cmpI a c) := by
  constructor
  · intro h1 h2 h3
    rcases cmpI_3 a b with e1 | e1 | e1 <;> rcases cmpI_3 b c with e2 | e2 | e2 <;> rcases cmpI_3 a c with e3 | e3 | e3 <;> (try omega) <;>
      (first | rw [cmpI_lt] at e1 | rw [cmpI_eq] at e1) <;> (first | rw [cmpI_lt] at e2 | rw [cmpI_eq] at e2) <;> rw [cmpI_gt] at e3 <;> omega
  · intro h1 h2 h3
    rcases cmpI_3 a b with e1 | e1 | e1 <;> rcases cmpI_3 b c with e2 | e2 | e2 <;> rcases cmpI_3 a c with e3 | e3 | e3 <;> (try omega) <;>
      (first | rw [cmpI_gt] at e1 | rw [cmpI_eq] at e1) <;> (first | rw [cmpI_gt] at e2 | rw [cmpI_eq] at e2) <;> rw [cmpI_lt] at e3 <;> omega

end Go.Proofs.YtompimbeaeinbaaGreat
