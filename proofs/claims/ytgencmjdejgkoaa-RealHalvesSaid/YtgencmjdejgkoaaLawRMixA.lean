/-
  THE LAW RealMixed.
-/
import Derived.Test.YtgencmjdejgkoaaFltN
namespace Go.Proofs.Ytgencmjdejgkoaa
open Go.RowKit

theorem cmpNum_z (w : World) (s : Bool) (A : Option Addr) (n c : Nat) (z : Int) (h : Nm w s A n c z) (ht : z.natAbs < Lm.top) (b : Int) :
    Calls Try.prog 28 #[.agg #[.bool s, .slice A n c], .int .u64 b] w (IntPost w (cmpNumZ z b.toNat)) := by
  have := cmpNum_any w s A n c _ h.1 b
  unfold cmpNumR at this
  rwa [h.may ht, if_pos rfl, h.eqZ] at this
/-- The float of an integer. -/
noncomputable def ofZ (z : Int) : Nat := Ieee.double.word (decide (z < 0)) (Fl.ofN z.natAbs)
theorem of_z (w : World) (s : Bool) (A : Option Addr) (n c : Nat) (z : Int) (h : Nm w s A n c z) (ht : z.natAbs < Lm.top) :
    Calls Try.prog 26 #[.agg #[.bool s, .slice A n c]] w fun e w' => e = .returned (.int .u64 (ofZ z : Nat)) ∧ Below w.heap.size w w' := by
  have e : ofR s (Lm.digits z.natAbs) = ofZ z := by
    unfold ofR ofZ
    rw [h.may ht, if_pos rfl, Lm.val_digits, h.2.out]
  have := of_flt w s A n c _ h.1
  rwa [e] at this
theorem floatOf_z (z : Int) : floatOfInt .f64 z = ofZ z := by
  unfold ofZ
  show Ieee.double.nearest (decide (z < 0)) z.natAbs 0 = _
  have := Fl.near0 (decide (z < 0)) z.natAbs 1074
  rw [show (-1074 + ((1074 : Nat) : Int)) = 0 by omega] at this
  rw [this, Fl.ofN_def, Fl.U_def, Fl.K_eq]
theorem ofZ_lt (z : Int) : ofZ z < 2 * Fl.S := by
  have := Fl.ofN_lt z.natAbs
  unfold ofZ Ieee.Format.word; rw [Fl.sw_eq]; split <;> omega
theorem ofZ_rg (z : Int) : Fl.rg (ofZ z) = Fl.ofN z.natAbs := Fl.word_rg (Fl.ofN_lt _)
theorem ofZ_ng (z : Int) : Fl.ng (ofZ z) = decide (z < 0) := Fl.word_ng (Fl.ofN_lt _)
theorem ofZ_nan (z : Int) : Fl.nanB (ofZ z) = false := by
  unfold Fl.nanB; rw [ofZ_rg]; exact decide_eq_false (by have := Fl.ofN_le z.natAbs; omega)
theorem ofZ_sv {z : Int} (h : Fl.Rep z.natAbs) : Fl.sv (ofZ z) = z * (Fl.U : Int) := by
  unfold Fl.sv Fl.sgnd
  rw [ofZ_rg, ofZ_ng, (Fl.rep_val h).1]
  by_cases hz : z < 0
  · rw [decide_eq_true hz, if_pos rfl, Int.natCast_mul, ← Int.neg_mul]; congr 1; omega
  · rw [decide_eq_false hz, if_neg (by decide), Int.natCast_mul]; congr 1; omega
theorem ofZ_flr {z : Int} (h : Fl.Rep z.natAbs) : Fl.flr (ofZ z) = z := by
  unfold Fl.flr
  rw [ofZ_sv h, Int.mul_ediv_cancel _ (by have := Fl.U_pos; omega)]
theorem ofZ_si (z : Int) : Fl.si (ofZ z) = Fl.sgnd (decide (z < 0)) (Fl.ofN z.natAbs) := by unfold Fl.si; rw [ofZ_rg, ofZ_ng]

def NINF : Nat := 18442240474082181120
theorem ninf_si : Fl.si NINF = -9218868437227405312 := by decide
theorem ninf_nan : Fl.nanB NINF = false := by decide
theorem ninf_ng : Fl.ng NINF = true := by decide
theorem ninf_lt : NINF < 2 * Fl.S := by decide
theorem cmpNumZ_nan (z : Int) {b : Nat} (h : Fl.nanB b = true) : cmpNumZ z b = -1 := if_pos h
theorem cmpNumZ_num (z : Int) {b : Nat} (h : Fl.nanB b = false) : cmpNumZ z b = if Fl.flr b < z then 1 else -1 := by unfold cmpNumZ; rw [h]; rfl

/-- The next float below lies below. -/
theorem below_lt {z : Int} (hz : -9007199254740992 ≤ z ∧ z < 9007199254740992) : cmpNumZ z (nextN (ofZ z) NINF) = 1 := by
  have e53 : Fl.B = 4503599627370496 := rfl
  have eS : Fl.S = 9223372036854775808 := rfl
  have eI : Fl.INF = 9218868437227405312 := rfl
  have hrep : Fl.Rep z.natAbs := Fl.rep_small (by omega)
  have hfin := (Fl.rep_val hrep).2
  have hsi := ofZ_si z
  have h0 := @Fl.ofN_eq_zero z.natAbs
  have hpos := fun h => @Fl.ofN_pos z.natAbs h
  have hrg := ofZ_rg z
  have hng := ofZ_ng z
  have hsplit := Fl.split_eq _ (ofZ_lt z)
  rw [hrg, hng] at hsplit
  have key : ∃ y, nextN (ofZ z) NINF = y ∧ Fl.nanB y = false ∧ Fl.si y < Fl.si (ofZ z) := by
    refine ⟨_, rfl, ?_⟩
    unfold nextN
    rw [hrg, ninf_ng, ninf_si, hsi]
    generalize Fl.ofN z.natAbs = r at *
    generalize ofZ z = F at *
    by_cases hz0 : r = 0
    · rw [if_pos hz0, if_pos rfl]
      subst hz0
      refine ⟨by decide, ?_⟩
      have : Fl.si (Fl.S + 1) = -1 := by decide
      rw [this]
      unfold Fl.sgnd; split <;> omega
    · rw [if_neg hz0]
      by_cases hneg : z < 0
      · rw [decide_eq_true hneg] at *
        simp only [if_true] at hsplit
        have c1 : decide (Fl.sgnd true r < -9218868437227405312) = false := decide_eq_false (by unfold Fl.sgnd; rw [if_pos rfl]; omega)
        have c2 : decide ((0 : Int) < Fl.sgnd true r) = false := decide_eq_false (by unfold Fl.sgnd; rw [if_pos rfl]; omega)
        rw [c1, c2, if_pos (by decide)]
        have w1 : F + 1 = Ieee.double.word true (r + 1) := by unfold Ieee.Format.word; rw [if_pos rfl, Fl.sw_eq]; omega
        rw [w1]
        refine ⟨?_, ?_⟩
        · unfold Fl.nanB; rw [Fl.word_rg (by omega)]; exact decide_eq_false (by omega)
        · unfold Fl.si; rw [Fl.word_rg (by omega), Fl.word_ng (by omega)]; unfold Fl.sgnd; rw [if_pos rfl, if_pos rfl]; omega
      · rw [decide_eq_false hneg] at *
        simp only [Bool.false_eq_true, if_false] at hsplit
        have c1 : decide (Fl.sgnd false r < -9218868437227405312) = false := decide_eq_false (by unfold Fl.sgnd; rw [if_neg (by decide)]; omega)
        have c2 : decide ((0 : Int) < Fl.sgnd false r) = true := decide_eq_true (by unfold Fl.sgnd; rw [if_neg (by decide)]; omega)
        rw [c1, c2, if_neg (by decide)]
        have w1 : F - 1 = Ieee.double.word false (r - 1) := by unfold Ieee.Format.word; rw [if_neg (by decide)]; omega
        rw [w1]
        refine ⟨?_, ?_⟩
        · unfold Fl.nanB; rw [Fl.word_rg (by omega)]; exact decide_eq_false (by omega)
        · unfold Fl.si; rw [Fl.word_rg (by omega), Fl.word_ng (by omega)]; unfold Fl.sgnd; rw [if_neg (by decide), if_neg (by decide)]; omega
  obtain ⟨y, e, hn, hlt⟩ := key
  rw [e, cmpNumZ_num z hn, if_pos]
  have h1 := (Fl.sv_lt_iff y (ofZ z)).2 hlt
  rw [ofZ_sv hrep] at h1
  exact Int.ediv_lt_of_lt_mul (by have := Fl.U_pos; omega) h1
theorem flr_mono {a b : Nat} (h : Fl.si a ≤ Fl.si b) : Fl.flr a ≤ Fl.flr b := by
  have h1 := Fl.sv_lt_iff b a
  have h2 : Fl.sv a ≤ Fl.sv b := by omega
  exact Int.ediv_le_ediv (by have := Fl.U_pos; omega) h2
/-- An integer below a float lies below what is above that. -/
theorem mixed_mono (z : Int) {A B : Int} (h : cmpI A B ≤ 0) : cmpNumZ z A.toNat = 1 ∧ cmpNumZ z B.toNat = 1 ∨ cmpNumZ z A.toNat = 1 ∧ cmpNumZ z B.toNat = -1 ∨ cmpNumZ z A.toNat = -1 ∧ cmpNumZ z B.toNat = -1 := by
  have hk : keyZ A.toNat ≤ keyZ B.toNat := by
    rcases cmpI_3 A B with e | e | e
    · have := cmpI_lt.1 e; omega
    · have := cmpI_eq.1 e; omega
    · omega
  cases nb : Fl.nanB B.toNat with
  | true =>
    rw [cmpNumZ_nan z nb]
    unfold cmpNumZ
    split
    · exact Or.inr (Or.inr ⟨rfl, rfl⟩)
    · split
      · exact Or.inr (Or.inl ⟨rfl, rfl⟩)
      · exact Or.inr (Or.inr ⟨rfl, rfl⟩)
  | false =>
    cases na : Fl.nanB A.toNat with
    | true => have := keyZ_lt nb; rw [keyZ_nan na] at hk; omega
    | false =>
      have hs : Fl.si A.toNat ≤ Fl.si B.toNat := by
        rcases Int.lt_or_le (Fl.si B.toNat) (Fl.si A.toNat) with h1 | h1
        · have := key_mono h1
          rw [keyZ_num na, keyZ_num nb] at hk
          omega
        · exact h1
      have hf := flr_mono hs
      rw [cmpNumZ_num z na, cmpNumZ_num z nb]
      by_cases h1 : Fl.flr A.toNat < z
      · rw [if_pos h1]
        by_cases h2 : Fl.flr B.toNat < z
        · rw [if_pos h2]; exact Or.inl ⟨rfl, rfl⟩
        · rw [if_neg h2]; exact Or.inr (Or.inl ⟨rfl, rfl⟩)
      · rw [if_neg h1, if_neg (by omega)]; exact Or.inr (Or.inr ⟨rfl, rfl⟩)
theorem mixed_own {z : Int} (hz : -9007199254740992 ≤ z ∧ z < 9007199254740992) : cmpNumZ z (ofZ z) = -1 := by
  have e53 : Fl.B = 4503599627370496 := rfl
  rw [cmpNumZ_num z (ofZ_nan z), ofZ_flr (Fl.rep_small (by omega)), if_neg (by omega)]
theorem mixed_inf {z : Int} (hz : -9007199254740992 ≤ z ∧ z < 9007199254740992) : cmpNumZ z (9218868437227405312 : Int).toNat = -1 := by
  have h1 : Fl.nanB (9218868437227405312 : Int).toNat = false := by decide
  have h2 := Fl.flr_ge (a := (9218868437227405312 : Int).toNat) (by decide)
  rw [cmpNumZ_num z h1, if_neg]
  have : (9007199254740992 : Int) ≤ ((2 ^ 256 : Nat) : Int) := by decide
  omega
theorem mixed_ninf {z : Int} (hz : -9007199254740992 ≤ z ∧ z < 9007199254740992) : cmpNumZ z (18442240474082181120 : Int).toNat = 1 := by
  have h1 : Fl.nanB (18442240474082181120 : Int).toNat = false := by decide
  have h2 := Fl.flr_le (a := (18442240474082181120 : Int).toNat) (by decide)
  rw [cmpNumZ_num z h1, if_pos]
  have : (9007199254740992 : Int) < ((2 ^ 256 : Nat) : Int) := by decide
  omega
end Go.Proofs.Ytgencmjdejgkoaa
