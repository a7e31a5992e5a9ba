/-
  THE REFERENCE's Blank, form, May (chapter 4).
  THE REFERENCE's form, May (chapter 4).
  THE REFERENCE's Num of a term (chapter 4).
-/
import Derived.Test.YtmcfokeibecopaaK8
namespace Go.Proofs.Ytmcfokeibecopaa
open Go.RowKit

/-- Has a record nothing but what its kind tells? -/
def blankB (k n : Int) (g : Bool) (ln : Nat) (u : Int) (s : ByteArray) (m : Nat) : Bool :=
  decide (n = 0 ∨ k = 1 ∨ k = 4 ∨ k = 5) && (decide (ln = 0 ∨ k = 2) && (decide (g = false ∨ k = 2) && (decide (u = 0 ∨ k = 3) && (decide (s.toList = [] ∨ k = 9) && decide (m = 0 ∨ k = 6 ∨ k = 8)))))

set_option maxRecDepth 100000 in
theorem nat_beq0 (m : Nat) : ((m : Int) == 0) = decide (m = 0) := by
  by_cases h : m = 0
  · subst h; rfl
  · rw [decide_eq_false h, beq_eq_false_iff_ne]; omega

set_option maxRecDepth 100000 in
set_option maxHeartbeats 8000000 in
theorem blank_raw (w : World) (k n : Int) (g : Bool) (A : Option Addr) (ln lc : Nat) (u : Int) (s : ByteArray) (B : Option Addr) (m d : Nat) :
    Calls Try.prog 59 #[.agg #[.int .i64 k, .int .i64 n, .bool g, .slice A ln lc, .int .u64 u, .string s, .slice B m d]] w fun e w' => e = .returned (.bool (blankB k n g ln u s m)) ∧ Below w.heap.size w w' := by
  obtain ⟨R, hR⟩ : ∃ R, R = blankB k n g ln u s m := ⟨_, rfl⟩
  rw [← hR]
  have HR := Lib.hid hR
  clear hR
  by_cases h1 : k = 1
  · subst h1
    go_enter Try.func59, Try.ntmps59
    go_wp2
    all_goals
      go_ret
      refine ⟨?_, ((Below.refl _ _).alloc (Nat.le_refl _) _).alloc (by simp) _⟩
      rw [HR.out]
      simp_all [blankB, nat_beq0]
  by_cases h2 : k = 2
  · subst h2
    go_enter Try.func59, Try.ntmps59
    go_wp2
    all_goals
      go_ret
      refine ⟨?_, ((Below.refl _ _).alloc (Nat.le_refl _) _).alloc (by simp) _⟩
      rw [HR.out]
      simp_all [blankB, nat_beq0]
  by_cases h3 : k = 3
  · subst h3
    go_enter Try.func59, Try.ntmps59
    go_wp2
    all_goals
      go_ret
      refine ⟨?_, ((Below.refl _ _).alloc (Nat.le_refl _) _).alloc (by simp) _⟩
      rw [HR.out]
      simp_all [blankB, nat_beq0]
  by_cases h4 : k = 4
  · subst h4
    go_enter Try.func59, Try.ntmps59
    go_wp2
    all_goals
      go_ret
      refine ⟨?_, ((Below.refl _ _).alloc (Nat.le_refl _) _).alloc (by simp) _⟩
      rw [HR.out]
      simp_all [blankB, nat_beq0]
  by_cases h5 : k = 5
  · subst h5
    go_enter Try.func59, Try.ntmps59
    go_wp2
    all_goals
      go_ret
      refine ⟨?_, ((Below.refl _ _).alloc (Nat.le_refl _) _).alloc (by simp) _⟩
      rw [HR.out]
      simp_all [blankB, nat_beq0]
  by_cases h6 : k = 6
  · subst h6
    go_enter Try.func59, Try.ntmps59
    go_wp2
    all_goals
      go_ret
      refine ⟨?_, ((Below.refl _ _).alloc (Nat.le_refl _) _).alloc (by simp) _⟩
      rw [HR.out]
      simp_all [blankB, nat_beq0]
  by_cases h7 : k = 7
  · subst h7
    go_enter Try.func59, Try.ntmps59
    go_wp2
    all_goals
      go_ret
      refine ⟨?_, ((Below.refl _ _).alloc (Nat.le_refl _) _).alloc (by simp) _⟩
      rw [HR.out]
      simp_all [blankB, nat_beq0]
  by_cases h8 : k = 8
  · subst h8
    go_enter Try.func59, Try.ntmps59
    go_wp2
    all_goals
      go_ret
      refine ⟨?_, ((Below.refl _ _).alloc (Nat.le_refl _) _).alloc (by simp) _⟩
      rw [HR.out]
      simp_all [blankB, nat_beq0]
  by_cases h9 : k = 9
  · subst h9
    go_enter Try.func59, Try.ntmps59
    go_wp2
    all_goals
      go_ret
      refine ⟨?_, ((Below.refl _ _).alloc (Nat.le_refl _) _).alloc (by simp) _⟩
      rw [HR.out]
      simp_all [blankB, nat_beq0]
  have e1 : (k == 1) = false := beq_eq_false_iff_ne.2 h1
  have e2 : (k == 2) = false := beq_eq_false_iff_ne.2 h2
  have e3 : (k == 3) = false := beq_eq_false_iff_ne.2 h3
  have e4 : (k == 4) = false := beq_eq_false_iff_ne.2 h4
  have e5 : (k == 5) = false := beq_eq_false_iff_ne.2 h5
  have e6 : (k == 6) = false := beq_eq_false_iff_ne.2 h6
  have e7 : (k == 7) = false := beq_eq_false_iff_ne.2 h7
  have e8 : (k == 8) = false := beq_eq_false_iff_ne.2 h8
  have e9 : (k == 9) = false := beq_eq_false_iff_ne.2 h9
  go_enter Try.func59, Try.ntmps59
  go_wp2
  all_goals
    go_ret
    refine ⟨?_, ((Below.refl _ _).alloc (Nat.le_refl _) _).alloc (by simp) _⟩
    rw [HR.out]
    simp_all [blankB, nat_beq0]
end Go.Proofs.Ytmcfokeibecopaa

namespace Go.Proofs.Ytmcfokeibecopaa
open Go.RowKit

set_option maxRecDepth 100000 in
theorem empty_toList : (⟨#[]⟩ : ByteArray).toList = [] := by rw [ByteArray.toList_eq]
set_option maxRecDepth 100000 in
theorem empty_iff {s : ByteArray} : s.toList = [] ↔ s = ⟨#[]⟩ := by
  constructor
  · intro e
    exact Classical.byContradiction fun h => toList_ne h (e.trans empty_toList.symm)
  · rintro rfl; exact empty_toList
set_option maxRecDepth 100000 in
set_option maxHeartbeats 2000000 in
theorem blank_alike {t : Tm} (hk : t.kind = 1 ∨ t.kind = 2 ∨ t.kind = 3 ∨ t.kind = 4 ∨ t.kind = 5 ∨ t.kind = 6 ∨ t.kind = 7 ∨ t.kind = 8 ∨ t.kind = 9) :
    blankB t.kind t.num t.neg t.mag.length t.bits t.bytes t.args.length = Tm.alikeB t t.ment := by
  obtain ⟨k, n, g, l, u, s, ks⟩ := t
  simp only [Tm.kind] at hk
  rw [Bool.eq_iff_iff]
  unfold blankB Tm.alikeB
  rcases hk with rfl | rfl | rfl | rfl | rfl | rfl | rfl | rfl | rfl
  all_goals
    simp [Tm.ment, Tm.kind, Tm.num, Tm.neg, Tm.mag, Tm.bits, Tm.bytes, Tm.args, empty_iff]
    try (constructor <;> (intro h; simp_all))
set_option maxRecDepth 100000 in
theorem form_no {t : Tm} (h : blankB t.kind t.num t.neg t.mag.length t.bits t.bytes t.args.length = false) : t.formB = false := by
  rw [Tm.formB_eq]
  by_cases hk : t.kind = 1 ∨ t.kind = 2 ∨ t.kind = 3 ∨ t.kind = 4 ∨ t.kind = 5 ∨ t.kind = 6 ∨ t.kind = 7 ∨ t.kind = 8 ∨ t.kind = 9
  · rw [blank_alike hk] at h
    rw [h]; rfl
  · have : t.boundB = false := by
      unfold Tm.boundB
      rw [if_neg (by omega), if_neg (by omega), if_neg (by omega), if_neg (by omega), if_neg (by omega), if_neg (by omega), if_neg (by omega), if_neg (by omega), if_neg (by omega)]
    rw [this]; simp
set_option maxRecDepth 100000 in
theorem form_yes {t : Tm} (h : blankB t.kind t.num t.neg t.mag.length t.bits t.bytes t.args.length = true) : t.formB = (t.boundB && Tm.formsB t.args) := by
  rw [Tm.formB_eq]
  by_cases hk : t.kind = 1 ∨ t.kind = 2 ∨ t.kind = 3 ∨ t.kind = 4 ∨ t.kind = 5 ∨ t.kind = 6 ∨ t.kind = 7 ∨ t.kind = 8 ∨ t.kind = 9
  · rw [blank_alike hk] at h
    rw [h]; rfl
  · have : t.boundB = false := by
      unfold Tm.boundB
      rw [if_neg (by omega), if_neg (by omega), if_neg (by omega), if_neg (by omega), if_neg (by omega), if_neg (by omega), if_neg (by omega), if_neg (by omega), if_neg (by omega)]
    rw [this]; simp
set_option maxRecDepth 100000 in
theorem form_leaf {t : Tm} (h : blankB t.kind t.num t.neg t.mag.length t.bits t.bytes t.args.length = true) (h6 : t.kind ≠ 6) (h8 : t.kind ≠ 8) : t.formB = t.boundB := by
  rw [form_yes h]
  unfold blankB at h
  simp only [Bool.and_eq_true, decide_eq_true_eq] at h
  have : t.args = [] := List.eq_nil_of_length_eq_zero (by omega)
  rw [this]
  simp [Tm.formsB]

set_option maxRecDepth 100000 in
set_option maxRecDepth 100000 in
set_option maxHeartbeats 8000000 in
theorem refForm_any (t : Tm) : ∀ (w : World) (r : TR), TV w r t →
    Calls Try.prog 38 #[.agg #[.int .i64 r.k, .int .i64 r.n, .bool r.g, .slice r.A r.ln r.lc, .int .u64 r.u, .string r.s, .slice r.B r.m r.d]] w fun e w' => e = .returned (.bool t.formB) ∧ Below w.heap.size w w' := by
  induction t using Tm.ind with
  | h k n g l u s ks ih =>
    intro w r htv
    have IH := Lib.hid ih
    clear ih
    obtain ⟨t, ht⟩ : ∃ t, t = Tm.mk k n g l u s ks := ⟨_, rfl⟩
    have hks : t.args = ks := by rw [ht]; rfl
    rw [← hks] at IH
    rw [← ht] at htv ⊢
    clear hks ht
    obtain ⟨R, hR⟩ : ∃ R, R = t.formB := ⟨_, rfl⟩
    rw [← hR]
    have HR := Lib.hid hR
    clear hR
    have I := BxI.new htv
    have eb : blankB t.kind t.num t.neg t.mag.length t.bits t.bytes t.args.length = blankB r.k r.n r.g r.ln r.u r.s r.m := by rw [htv.kind, htv.num, htv.neg, htv.magLen, htv.bits, htv.bytes, htv.len]
    have EB := Lib.hid eb
    have KK := Lib.hid htv.kind
    have KN := Lib.hid htv.num
    have KG := Lib.hid htv.neg
    have KU := Lib.hid htv.bits
    have KS := Lib.hid htv.bytes
    have KM := Lib.hid htv.len
    have hu : U64 r.u := ⟨htv.flat.u0, by have := htv.flat.u1; omega⟩
    have hml : r.m ≤ maxLen := Nat.le_trans htv.flat.md htv.flat.dd
    have hml' : (r.m : Int) ≤ 9223372036854775807 := by unfold maxLen at hml; omega
    clear eb htv
    go_enter Try.func38, Try.ntmps38
    go_wp2_with fail
    generalize w.alloc (.cells #[.int .i64 r.k, .int .i64 r.n, .bool r.g, .slice r.A r.ln r.lc, .int .u64 r.u, .string r.s, .slice r.B r.m r.d] 28) = W at *
    refine (blank_raw W r.k r.n r.g r.A r.ln r.lc r.u r.s r.B r.m r.d).mono ?_
    rintro e w1 ⟨rfl, hb1⟩
    have I1 := I.below hb1
    clear I
    cases hbk : blankB r.k r.n r.g r.ln r.u r.s r.m with
    | false =>
      have hfin := Lib.hid (show R = false by rw [HR.out]; exact form_no (by rw [EB.out, hbk]))
      go_wp2
      go_ret
      exact ⟨by rw [hfin.out]; rfl, I1.be⟩
    | true =>
      have HB := Lib.hid (show blankB t.kind t.num t.neg t.mag.length t.bits t.bytes t.args.length = true by rw [EB.out, hbk])
      clear hbk EB
      have y := I1.bx.at
      have y0 := y.c0
      have y1 := y.c1
      have y2 := y.c2
      have y3 := y.c3
      have y4 := y.c4
      have y5 := y.c5
      have y6 := y.c6
      clear y
      by_cases hk : r.k = 1
      · have hfin := Lib.hid (show R = (decide (-1152921504606846976 ≤ r.n) && decide (r.n ≤ 1152921504606846975)) by
          have q : t.kind = 1 := by rw [KK.out, hk]
          rw [HR.out, form_leaf HB.out (by rw [q]; decide) (by rw [q]; decide)]
          unfold Tm.boundB
          rw [q, KN.out]
          rfl)
        have e1 : (r.k == 1) = true := by rw [hk]; rfl
        clear hk
        go_wp2
        all_goals
          go_ret
          refine ⟨?_, I1.be⟩
          rw [hfin.out]
          first | (simp_all; done) | (simp_all; omega)
      have k1 := hk
      clear hk
      by_cases hk : r.k = 4
      · have hfin := Lib.hid (show R = (decide (0 ≤ r.n) && decide (r.n ≤ 255)) by
          have q : t.kind = 4 := by rw [KK.out, hk]
          rw [HR.out, form_leaf HB.out (by rw [q]; decide) (by rw [q]; decide)]
          unfold Tm.boundB
          rw [q, KN.out]
          rfl)
        have e1 : (r.k == 1) = false := by rw [hk]; rfl
        have e2 : (r.k == 2) = false := by rw [hk]; rfl
        have e3 : (r.k == 3) = false := by rw [hk]; rfl
        have e4 : (r.k == 4) = true := by rw [hk]; rfl
        clear hk
        go_wp2
        all_goals
          go_ret
          refine ⟨?_, I1.be⟩
          rw [hfin.out]
          first | (simp_all; done) | (simp_all; omega)
      have k4 := hk
      clear hk
      by_cases hk : r.k = 5
      · have hfin := Lib.hid (show R = (decide (0 ≤ r.n) && decide (r.n ≤ 63)) by
          have q : t.kind = 5 := by rw [KK.out, hk]
          rw [HR.out, form_leaf HB.out (by rw [q]; decide) (by rw [q]; decide)]
          unfold Tm.boundB
          rw [q, KN.out]
          rfl)
        have e1 : (r.k == 1) = false := by rw [hk]; rfl
        have e2 : (r.k == 2) = false := by rw [hk]; rfl
        have e3 : (r.k == 3) = false := by rw [hk]; rfl
        have e4 : (r.k == 4) = false := by rw [hk]; rfl
        have e5 : (r.k == 5) = true := by rw [hk]; rfl
        clear hk
        go_wp2
        all_goals
          go_ret
          refine ⟨?_, I1.be⟩
          rw [hfin.out]
          first | (simp_all; done) | (simp_all; omega)
      have k5 := hk
      clear hk
      by_cases hk : r.k = 2
      · have hfin := Lib.hid (show R = (mayB t.neg t.mag && !smOk t.neg t.mag) by
          have q : t.kind = 2 := by rw [KK.out, hk]
          rw [HR.out, form_leaf HB.out (by rw [q]; decide) (by rw [q]; decide)]
          unfold Tm.boundB
          rw [q]
          rfl)
        have e1 : (r.k == 1) = false := by rw [hk]; rfl
        have e2 : (r.k == 2) = true := by rw [hk]; rfl
        clear hk
        have hraw : Raw w1 r.A r.ln r.lc t.mag := ⟨I1.tv.flat.lim, I1.tv.flat.cap⟩
        rw [KG.out] at hfin
        generalize t.mag = ll at hfin hraw
        go_wp2_with fail
        refine (refSmall_raw w1 r.g r.A r.ln r.lc ll hraw).mono ?_
        generalize smZ r.g ll = z
        generalize smOk r.g ll = ok at hfin ⊢
        rintro e w2 ⟨rfl, hb2⟩
        have I2 := I1.below hb2
        clear y0 y1 y2 y3 y4 y5 y6
        have y2 := I2.bx.at.c2
        have y3 := I2.bx.at.c3
        go_wp2_with fail
        refine (refMay_b w2 r.g r.A r.ln r.lc ll (hraw.below hb2)).mono ?_
        generalize mayB r.g ll = mb at hfin ⊢
        rintro e w3 ⟨rfl, hb3⟩
        have I3 := I2.below hb3
        cases mb
        all_goals
          go_wp2
          go_ret
          exact ⟨by rw [hfin.out]; rfl, I3.be⟩
      have k2 := hk
      clear hk
      by_cases hk : r.k = 3
      · have hfin := Lib.hid (show R = (cleanI r.u == r.u) by
          have q : t.kind = 3 := by rw [KK.out, hk]
          rw [HR.out, form_leaf HB.out (by rw [q]; decide) (by rw [q]; decide)]
          unfold Tm.boundB
          rw [q, KU.out]
          rfl)
        have e1 : (r.k == 1) = false := by rw [hk]; rfl
        have e2 : (r.k == 2) = false := by rw [hk]; rfl
        have e3 : (r.k == 3) = true := by rw [hk]; rfl
        clear hk
        go_wp2_with fail
        refine (refMayF_any w1 r.u hu).mono ?_
        generalize (cleanI r.u == r.u) = c at hfin ⊢
        rintro e w2 ⟨rfl, rfl⟩
        go_wp2
        go_ret
        exact ⟨by rw [hfin.out]; rfl, I1.be⟩
      have k3 := hk
      clear hk
      by_cases hk : r.k = 7
      · have hfin := Lib.hid (show R = true by
          have q : t.kind = 7 := by rw [KK.out, hk]
          rw [HR.out, form_leaf HB.out (by rw [q]; decide) (by rw [q]; decide)]
          unfold Tm.boundB
          rw [q]
          rfl)
        have e1 : (r.k == 1) = false := by rw [hk]; rfl
        have e2 : (r.k == 2) = false := by rw [hk]; rfl
        have e3 : (r.k == 3) = false := by rw [hk]; rfl
        have e4 : (r.k == 4) = false := by rw [hk]; rfl
        have e5 : (r.k == 5) = false := by rw [hk]; rfl
        have e7 : (r.k == 7) = true := by rw [hk]; rfl
        clear hk
        go_wp2
        go_ret
        exact ⟨by rw [hfin.out]; rfl, I1.be⟩
      have k7 := hk
      clear hk
      by_cases hk : r.k = 9
      · have hfin := Lib.hid (show R = decide ((r.s.size : Int) ≤ 400) by
          have q : t.kind = 9 := by rw [KK.out, hk]
          rw [HR.out, form_leaf HB.out (by rw [q]; decide) (by rw [q]; decide)]
          unfold Tm.boundB
          rw [q, KS.out]
          simp
          omega)
        have e1 : (r.k == 1) = false := by rw [hk]; rfl
        have e2 : (r.k == 2) = false := by rw [hk]; rfl
        have e3 : (r.k == 3) = false := by rw [hk]; rfl
        have e4 : (r.k == 4) = false := by rw [hk]; rfl
        have e5 : (r.k == 5) = false := by rw [hk]; rfl
        have e7 : (r.k == 7) = false := by rw [hk]; rfl
        have e9 : (r.k == 9) = true := by rw [hk]; rfl
        clear hk
        go_wp2
        go_ret
        exact ⟨by rw [hfin.out]; rfl, I1.be⟩
      have k9 := hk
      clear hk
      by_cases hk : r.k = 6
      · have q : t.kind = 6 := by rw [KK.out, hk]
        have hbd : t.boundB = decide (r.m ≤ 8) := by unfold Tm.boundB; rw [q, KM.out]; rfl
        have e1 : (r.k == 1) = false := by rw [hk]; rfl
        have e2 : (r.k == 2) = false := by rw [hk]; rfl
        have e3 : (r.k == 3) = false := by rw [hk]; rfl
        have e4 : (r.k == 4) = false := by rw [hk]; rfl
        have e5 : (r.k == 5) = false := by rw [hk]; rfl
        have e7 : (r.k == 7) = false := by rw [hk]; rfl
        have e9 : (r.k == 9) = false := by rw [hk]; rfl
        have e6 : (r.k == 6) = true := by rw [hk]; rfl
        have HBD := Lib.hid hbd
        clear hk q hbd
        by_cases hm8 : r.m ≤ 8
        case neg =>
          have hd : decide ((8 : Int) < (r.m : Int)) = true := by rw [decide_eq_true_iff]; omega
          have hfin := Lib.hid (show R = false by rw [HR.out, form_yes HB.out, HBD.out, decide_eq_false hm8]; rfl)
          go_wp2
          go_ret
          exact ⟨by rw [hfin.out]; rfl, I1.be⟩
        have hd : decide ((8 : Int) < (r.m : Int)) = false := by rw [decide_eq_false_iff_not]; omega
        have hfin := Lib.hid (show R = Tm.formsB t.args by rw [HR.out, form_yes HB.out, HBD.out, decide_eq_true hm8]; rfl)
        go_wp2_with fail
        clear y0 y1 y2 y3 y4 y5 y6
        go_loopw [5] (fun i w' => ∃ j : Nat, j ≤ r.m ∧ i = .int .i64 (j : Int) ∧ Hid (Tm.formsB (t.args.take j) = true) ∧ BxI w r t w') (fun i _ => r.m - (intOf i).toNat)
        case atStart => exact ⟨0, Nat.zero_le _, rfl, Lib.hid rfl, I1⟩
        case round =>
          obtain ⟨j, hj, rfl, hz, J⟩ := hrel
          clear I1
          by_cases hjm : j < r.m
          · have hd1 : decide ((j : Int) < (r.m : Int)) = true := by rw [decide_eq_true_iff]; omega
            obtain ⟨b, o, r', t', e, hlt, h7, het, htv'⟩ := J.tv.args.get j hjm
            have hmem := List.mem_of_getElem? het
            have x6 : wr.cell? ⟨w.heap.size, 6, none⟩ = some (.slice r.B r.m r.d) := J.bx.at.c6
            rw [e] at x6
            clear e
            have d0 := h7.c0; have d1 := h7.c1; have d2 := h7.c2; have d3 := h7.c3; have d4 := h7.c4; have d5 := h7.c5; have d6 := h7.c6
            have HJ := Lib.hid J
            clear J
            go_wp2_with fail
            refine (IH.out t' hmem wr r' htv').mono ?_
            rintro e w2 ⟨rfl, hb2⟩
            have J2 := Lib.hid (HJ.out.below hb2)
            cases hf : t'.formB with
            | false =>
              have hfi := Lib.hid (show R = false by rw [hfin.out]; exact Tm.formsB_no het hf)
              go_wp2
              go_ret
              exact ⟨by rw [hfi.out]; rfl, J2.out.be⟩
            | true =>
              have hst := Lib.hid (Tm.formsB_take het hf hz.out)
              go_wp2_with fail
              go_roundw
              case rel => exact ⟨j + 1, by omega, by go_num, hst, J2.out⟩
              case measure => simp [intOf]; omega
          · have hd1 : decide ((j : Int) < (r.m : Int)) = false := by rw [decide_eq_false_iff_not]; omega
            have x6 := J.bx.at.c6
            have hfi := Lib.hid (show R = true by
              rw [hfin.out]
              have := hz.out
              rw [List.take_of_length_le (by rw [J.tv.len]; omega)] at this
              exact this)
            go_wp2
            go_ret
            exact ⟨by rw [hfi.out]; rfl, J.be⟩
      have k6 := hk
      clear hk
      by_cases hk : r.k = 8
      · have q : t.kind = 8 := by rw [KK.out, hk]
        have hbd : t.boundB = decide (r.m = 2) := by unfold Tm.boundB; rw [q, KM.out]; rfl
        have e1 : (r.k == 1) = false := by rw [hk]; rfl
        have e2 : (r.k == 2) = false := by rw [hk]; rfl
        have e3 : (r.k == 3) = false := by rw [hk]; rfl
        have e4 : (r.k == 4) = false := by rw [hk]; rfl
        have e5 : (r.k == 5) = false := by rw [hk]; rfl
        have e7 : (r.k == 7) = false := by rw [hk]; rfl
        have e9 : (r.k == 9) = false := by rw [hk]; rfl
        have e6 : (r.k == 6) = false := by rw [hk]; rfl
        have e8 : (r.k == 8) = true := by rw [hk]; rfl
        have HBD := Lib.hid hbd
        clear hk q hbd
        by_cases hm8 : r.m = 2
        case neg =>
          have hd : ((r.m : Int) != 2) = true := by rw [bne_iff_ne]; omega
          have hfin := Lib.hid (show R = false by rw [HR.out, form_yes HB.out, HBD.out, decide_eq_false hm8]; rfl)
          go_wp2
          go_ret
          exact ⟨by rw [hfin.out]; rfl, I1.be⟩
        have hd : ((r.m : Int) != 2) = false := by rw [hm8]; rfl
        have hfin := Lib.hid (show R = Tm.formsB t.args by rw [HR.out, form_yes HB.out, HBD.out, decide_eq_true hm8]; rfl)
        clear hm8
        go_wp2_with fail
        clear y0 y1 y2 y3 y4 y5 y6
        go_loopw [5] (fun i w' => ∃ j : Nat, j ≤ r.m ∧ i = .int .i64 (j : Int) ∧ Hid (Tm.formsB (t.args.take j) = true) ∧ BxI w r t w') (fun i _ => r.m - (intOf i).toNat)
        case atStart => exact ⟨0, Nat.zero_le _, rfl, Lib.hid rfl, I1⟩
        case round =>
          obtain ⟨j, hj, rfl, hz, J⟩ := hrel
          clear I1
          by_cases hjm : j < r.m
          · have hd1 : decide ((j : Int) < (r.m : Int)) = true := by rw [decide_eq_true_iff]; omega
            obtain ⟨b, o, r', t', e, hlt, h7, het, htv'⟩ := J.tv.args.get j hjm
            have hmem := List.mem_of_getElem? het
            have x6 : wr.cell? ⟨w.heap.size, 6, none⟩ = some (.slice r.B r.m r.d) := J.bx.at.c6
            rw [e] at x6
            clear e
            have d0 := h7.c0; have d1 := h7.c1; have d2 := h7.c2; have d3 := h7.c3; have d4 := h7.c4; have d5 := h7.c5; have d6 := h7.c6
            have HJ := Lib.hid J
            clear J
            go_wp2_with fail
            refine (IH.out t' hmem wr r' htv').mono ?_
            rintro e w2 ⟨rfl, hb2⟩
            have J2 := Lib.hid (HJ.out.below hb2)
            cases hf : t'.formB with
            | false =>
              have hfi := Lib.hid (show R = false by rw [hfin.out]; exact Tm.formsB_no het hf)
              go_wp2
              go_ret
              exact ⟨by rw [hfi.out]; rfl, J2.out.be⟩
            | true =>
              have hst := Lib.hid (Tm.formsB_take het hf hz.out)
              go_wp2_with fail
              go_roundw
              case rel => exact ⟨j + 1, by omega, by go_num, hst, J2.out⟩
              case measure => simp [intOf]; omega
          · have hd1 : decide ((j : Int) < (r.m : Int)) = false := by rw [decide_eq_false_iff_not]; omega
            have x6 := J.bx.at.c6
            have hfi := Lib.hid (show R = true by
              rw [hfin.out]
              have := hz.out
              rw [List.take_of_length_le (by rw [J.tv.len]; omega)] at this
              exact this)
            go_wp2
            go_ret
            exact ⟨by rw [hfi.out]; rfl, J.be⟩
      have k8 := hk
      clear hk
      have hfin := Lib.hid (show R = false by
        rw [HR.out, form_yes HB.out]
        have : t.boundB = false := by
          unfold Tm.boundB
          rw [KK.out, if_neg k1, if_neg k2, if_neg k3, if_neg k4, if_neg k5, if_neg k6, if_neg k7, if_neg k8, if_neg k9]
        rw [this]; rfl)
      have e1 := beq_eq_false_iff_ne.2 k1
      have e2 := beq_eq_false_iff_ne.2 k2
      have e3 := beq_eq_false_iff_ne.2 k3
      have e4 := beq_eq_false_iff_ne.2 k4
      have e5 := beq_eq_false_iff_ne.2 k5
      have e6 := beq_eq_false_iff_ne.2 k6
      have e7 := beq_eq_false_iff_ne.2 k7
      have e8 := beq_eq_false_iff_ne.2 k8
      have e9 := beq_eq_false_iff_ne.2 k9
      go_wp2
      go_ret
      exact ⟨by rw [hfin.out]; rfl, I1.be⟩

set_option maxRecDepth 100000 in
set_option maxHeartbeats 2000000 in
theorem refMayT_any (w : World) (r : TR) (t : Tm) (h : TV w r t) (ho : t.Ok) :
    Calls Try.prog 21 #[.agg #[.int .i64 r.k, .int .i64 r.n, .bool r.g, .slice r.A r.ln r.lc, .int .u64 r.u, .string r.s, .slice r.B r.m r.d]] w fun e w' => e = .returned (.bool t.mayB) ∧ Below w.heap.size w w' := by
  obtain ⟨R, hR⟩ : ∃ R, R = t.mayB := ⟨_, rfl⟩
  rw [← hR]
  have HR := Lib.hid hR
  clear hR
  have I := BxI.new h
  go_enter Try.func21, Try.ntmps21
  go_wp2_with fail
  generalize w.alloc (.cells #[.int .i64 r.k, .int .i64 r.n, .bool r.g, .slice r.A r.ln r.lc, .int .u64 r.u, .string r.s, .slice r.B r.m r.d] 28) = W at *
  refine (refWeight_any t W r I.tv ho).mono ?_
  rintro e w1 ⟨rfl, hb1⟩
  have I1 := I.below hb1
  clear I
  have y0 := I1.bx.at.c0; have y1 := I1.bx.at.c1; have y2 := I1.bx.at.c2; have y3 := I1.bx.at.c3; have y4 := I1.bx.at.c4; have y5 := I1.bx.at.c5; have y6 := I1.bx.at.c6
  by_cases hc : t.cap ≤ 300
  · have hfin := Lib.hid (show R = t.formB by rw [HR.out, Tm.mayB, decide_eq_true hc]; rfl)
    have hd : decide ((t.cap : Int) ≤ 300) = true := by rw [decide_eq_true_iff]; omega
    clear HR hc
    go_wp2_with fail
    refine (refForm_any t w1 r I1.tv).mono ?_
    rintro e w2 ⟨rfl, hb2⟩
    have I2 := I1.below hb2
    generalize t.formB = f at hfin ⊢
    go_wp2
    go_ret
    exact ⟨by rw [hfin.out]; rfl, I2.be⟩
  · have hfin := Lib.hid (show R = false by rw [HR.out, Tm.mayB, decide_eq_false hc]; rfl)
    have hd : decide ((t.cap : Int) ≤ 300) = false := by rw [decide_eq_false_iff_not]; omega
    clear HR hc
    go_wp2
    go_ret
    exact ⟨by rw [hfin.out]; rfl, I1.be⟩
end Go.Proofs.Ytmcfokeibecopaa

namespace Go.Proofs.Ytmcfokeibecopaa
open Go.RowKit

/-- A call leaves this integer, and true. -/
def NmP (w : World) (z : Int) (e : Ending) (w' : World) : Prop :=
  ∃ s A n c, e = .returned (.tuple #[.agg #[.bool s, .slice A n c], .bool true]) ∧ Nm w' s A n c z ∧ Below w.heap.size w w'
/-- A call leaves no integer. -/
def NoP (w : World) (e : Ending) (w' : World) : Prop := e = .returned (.tuple #[.agg #[.bool false, .slice none 0 0], .bool false]) ∧ Below w.heap.size w w'
set_option maxRecDepth 100000 in
theorem Nm.setO {w : World} {base : Nat} {s : Bool} {A : Option Addr} {n c : Nat} {z : Int} (hs : Hid (s = decide (z < 0))) (ho : Own w base A n c (Lm.digits z.natAbs)) : Nm w s A n c z := Nm.of_own hs ho

set_option maxRecDepth 100000 in
set_option maxHeartbeats 4000000 in
theorem refNum_no (w : World) (r : TR) (t : Tm) (h : TV w r t) (ho : t.Ok) (hn : t.mayB = false ∨ (t.kind ≠ 1 ∧ t.kind ≠ 2)) : Calls Try.prog 63 #[.agg #[.int .i64 r.k, .int .i64 r.n, .bool r.g, .slice r.A r.ln r.lc, .int .u64 r.u, .string r.s, .slice r.B r.m r.d]] w (NoP w) := by
  have I := (BxI.new h).below ((Below.refl _ _).alloc (Nat.le_refl _) (.cells #[.bool false, .slice none 0 0] 24))
  have hy := Box.new (w.alloc (.cells #[.int .i64 r.k, .int .i64 r.n, .bool r.g, .slice r.A r.ln r.lc, .int .u64 r.u, .string r.s, .slice r.B r.m r.d] 28)) (.bool false) (.slice none 0 0)
  rw [World.size_alloc] at hy
  rw [h.kind] at hn
  go_enter Try.func63, Try.ntmps63
  go_wp2_with fail
  generalize (w.alloc (.cells #[.int .i64 r.k, .int .i64 r.n, .bool r.g, .slice r.A r.ln r.lc, .int .u64 r.u, .string r.s, .slice r.B r.m r.d] 28)).alloc (.cells #[.bool false, .slice none 0 0] 24) = W at *
  refine (refMayT_any W r t I.tv ho).mono ?_
  rintro e w1 ⟨rfl, hb1⟩
  have I1 := I.below hb1
  have hy1 := hy.below' hb1
  have y0 := I1.bx.at.c0
  have z0 := hy1.c0
  have z1 := hy1.c1
  have f0 := hy1.f0
  have f1 := hy1.f1
  clear I hy
  have fin : ∀ W5 : World, Box W5 (w.heap.size + 1) (.bool false) (.slice none 0 0) → Below w.heap.size w W5 → True := fun _ _ _ => trivial
  clear fin
  cases hm : t.mayB with
  | false =>
    clear hn
    go_wp2
    have hB := hy1.put2 (x' := .bool false) (y' := .slice none 0 0)
    have hbl := (I1.be.setCell (p := ⟨w.heap.size + 1, 0, none⟩) (by simp only; omega) (.bool false)).setCell (p := ⟨w.heap.size + 1, 1, none⟩) (by simp only; omega) (.slice none 0 0)
    clear z0 z1 f0 f1
    generalize (w1.setCell ⟨w.heap.size + 1, 0, none⟩ (.bool false)).setCell ⟨w.heap.size + 1, 1, none⟩ (.slice none 0 0) = W5 at *
    have z0 := hB.c0
    have z1 := hB.c1
    exact bodyPost_ret (v := .tuple #[.agg #[.bool false, .slice none 0 0], .bool false]) (by simp [results, Try.results63, go_sem, z0, z1]) rfl ⟨rfl, hbl⟩
  | true =>
    have hk := hn.resolve_left (by rw [hm]; decide)
    have e1 : (r.k != 1) = true := by rw [bne_iff_ne]; exact hk.1
    have e2 : (r.k != 2) = true := by rw [bne_iff_ne]; exact hk.2
    clear hn hk
    go_wp2
    have hB := hy1.put2 (x' := .bool false) (y' := .slice none 0 0)
    have hbl := (I1.be.setCell (p := ⟨w.heap.size + 1, 0, none⟩) (by simp only; omega) (.bool false)).setCell (p := ⟨w.heap.size + 1, 1, none⟩) (by simp only; omega) (.slice none 0 0)
    clear z0 z1 f0 f1
    generalize (w1.setCell ⟨w.heap.size + 1, 0, none⟩ (.bool false)).setCell ⟨w.heap.size + 1, 1, none⟩ (.slice none 0 0) = W5 at *
    have z0 := hB.c0
    have z1 := hB.c1
    exact bodyPost_ret (v := .tuple #[.agg #[.bool false, .slice none 0 0], .bool false]) (by simp [results, Try.results63, go_sem, z0, z1]) rfl ⟨rfl, hbl⟩

set_option maxRecDepth 100000 in
set_option maxHeartbeats 4000000 in
theorem refNum_int (w : World) (r : TR) (t : Tm) (h : TV w r t) (ho : t.Ok) (hm : t.mayB = true) (hk : t.kind = 1) : Calls Try.prog 63 #[.agg #[.int .i64 r.k, .int .i64 r.n, .bool r.g, .slice r.A r.ln r.lc, .int .u64 r.u, .string r.s, .slice r.B r.m r.d]] w (NmP w t.num) := by
  have I := (BxI.new h).below ((Below.refl _ _).alloc (Nat.le_refl _) (.cells #[.bool false, .slice none 0 0] 24))
  have hy := Box.new (w.alloc (.cells #[.int .i64 r.k, .int .i64 r.n, .bool r.g, .slice r.A r.ln r.lc, .int .u64 r.u, .string r.s, .slice r.B r.m r.d] 28)) (.bool false) (.slice none 0 0)
  rw [World.size_alloc] at hy
  have hW : ((w.alloc (.cells #[.int .i64 r.k, .int .i64 r.n, .bool r.g, .slice r.A r.ln r.lc, .int .u64 r.u, .string r.s, .slice r.B r.m r.d] 28)).alloc (.cells #[.bool false, .slice none 0 0] 24)).heap.size = w.heap.size + 2 := by simp
  rw [h.kind] at hk
  rw [h.num]
  have e1 : (r.k != 1) = false := by rw [hk]; rfl
  have e1' : (r.k == 1) = true := by rw [hk]; rfl
  have hn0 := h.flat.n0
  have hn1 := h.flat.n1
  clear hk
  go_enter Try.func63, Try.ntmps63
  go_wp2_with fail
  generalize (w.alloc (.cells #[.int .i64 r.k, .int .i64 r.n, .bool r.g, .slice r.A r.ln r.lc, .int .u64 r.u, .string r.s, .slice r.B r.m r.d] 28)).alloc (.cells #[.bool false, .slice none 0 0] 24) = W at *
  refine (refMayT_any W r t I.tv ho).mono ?_
  rw [hm]
  rintro e w1 ⟨rfl, hb1⟩
  have I1 := I.below hb1
  have hy1 := hy.below' hb1
  have y0 := I1.bx.at.c0
  have y1 := I1.bx.at.c1
  have hsz1 : w.heap.size + 2 ≤ w1.heap.size := by rw [← hW]; exact hb1.size
  clear I hy
  go_wp2_with fail
  refine (refOf_any w1 r.n hn0 hn1).mono ?_
  rintro e w2 ⟨V, rfl, ⟨s, A, n, c, rfl, hss, hO⟩, hb2⟩
  have I2 := I1.below hb2
  have hy2 := hy1.below' hb2
  have f0 := hy2.f0
  have f1 := hy2.f1
  have z0 := hy2.c0
  have z1 := hy2.c1
  clear y0 y1 I1 hy1
  go_wp2
  have hB := hy2.put2 (x' := .bool s) (y' := .slice A n c)
  have hbl := (I2.be.setCell (p := ⟨w.heap.size + 1, 0, none⟩) (by simp only; omega) (.bool s)).setCell (p := ⟨w.heap.size + 1, 1, none⟩) (by simp only; omega) (.slice A n c)
  have hO5 := (hO.setO (p := ⟨w.heap.size + 1, 0, none⟩) (by simp only; omega) (.bool s)).setO (p := ⟨w.heap.size + 1, 1, none⟩) (by simp only; omega) (.slice A n c)
  clear z0 z1 f0 f1
  generalize (w2.setCell ⟨w.heap.size + 1, 0, none⟩ (.bool s)).setCell ⟨w.heap.size + 1, 1, none⟩ (.slice A n c) = W5 at *
  have z0 := hB.c0
  have z1 := hB.c1
  exact bodyPost_ret (v := .tuple #[.agg #[.bool s, .slice A n c], .bool true]) (by simp [results, Try.results63, go_sem, z0, z1]) rfl ⟨s, A, n, c, rfl, Nm.of_own hss hO5, hbl⟩

set_option maxRecDepth 100000 in
set_option maxHeartbeats 4000000 in
theorem refNum_big (w : World) (r : TR) (t : Tm) (h : TV w r t) (ho : t.Ok) (hm : t.mayB = true) (hk : t.kind = 2) : Calls Try.prog 63 #[.agg #[.int .i64 r.k, .int .i64 r.n, .bool r.g, .slice r.A r.ln r.lc, .int .u64 r.u, .string r.s, .slice r.B r.m r.d]] w (NumP w t.neg t.mag) := by
  have hln : r.ln ≤ 1000 := by have := Ok.limbs h ho; omega
  have I := (BxI.new h).below ((Below.refl _ _).alloc (Nat.le_refl _) (.cells #[.bool false, .slice none 0 0] 24))
  have hy := Box.new (w.alloc (.cells #[.int .i64 r.k, .int .i64 r.n, .bool r.g, .slice r.A r.ln r.lc, .int .u64 r.u, .string r.s, .slice r.B r.m r.d] 28)) (.bool false) (.slice none 0 0)
  rw [World.size_alloc] at hy
  have hW : ((w.alloc (.cells #[.int .i64 r.k, .int .i64 r.n, .bool r.g, .slice r.A r.ln r.lc, .int .u64 r.u, .string r.s, .slice r.B r.m r.d] 28)).alloc (.cells #[.bool false, .slice none 0 0] 24)).heap.size = w.heap.size + 2 := by simp
  rw [h.kind] at hk
  have HG := Lib.hid h.neg
  have HL := Lib.hid h.magLen
  have e1 : (r.k != 1) = true := by rw [hk]; rfl
  have e1' : (r.k == 1) = false := by rw [hk]; rfl
  have e2 : (r.k != 2) = false := by rw [hk]; rfl
  clear hk
  go_enter Try.func63, Try.ntmps63
  go_wp2_with fail
  generalize (w.alloc (.cells #[.int .i64 r.k, .int .i64 r.n, .bool r.g, .slice r.A r.ln r.lc, .int .u64 r.u, .string r.s, .slice r.B r.m r.d] 28)).alloc (.cells #[.bool false, .slice none 0 0] 24) = W at *
  refine (refMayT_any W r t I.tv ho).mono ?_
  rw [hm]
  rintro e w1 ⟨rfl, hb1⟩
  have I1 := I.below hb1
  have hy1 := hy.below' hb1
  have hsz1 : w.heap.size + 2 ≤ w1.heap.size := by rw [← hW]; exact hb1.size
  have hb3 := (Below.refl w1.heap.size w1).drew
  have I3 := I1.below hb3
  have hy3 := hy1.below' hb3
  have hraw : Raw w1.drew r.A r.ln r.lc t.mag := ⟨I3.tv.flat.lim, I3.tv.flat.cap⟩
  obtain ⟨A', c', w3, hrun, hO, hB⟩ := append_lim w1.drew w1.drew.heap.size none 0 0 [] (Own.nil _ _) r.A r.ln r.lc t.mag hraw.1 (by omega) (Nat.le_refl _) 22
  rw [Nat.zero_add, List.nil_append] at hO
  rw [Nat.zero_add] at hrun
  have HR := Lib.hid hrun
  clear hrun
  have hszd : w.heap.size + 2 ≤ w1.drew.heap.size := hsz1
  have I4 := I3.below hB
  have hy4 := hy3.below' hB
  have y0 := I1.bx.at.c0
  have x0 := I3.bx.at.c0
  have x2 := I3.bx.at.c2
  have x3 := I3.bx.at.c3
  have v2 := I4.bx.at.c2
  have v3 := I4.bx.at.c3
  have f0 := hy4.f0
  have f1 := hy4.f1
  have z0 := hy4.c0
  have z1 := hy4.c1
  clear I I1 hy hy1
  go_wp2_with fail
  go_region_law (first | (refine step_app rfl _ _ 22 rfl _ _ _ rfl rfl HR.out ?_))
  all_goals
    go_wp2
    have hBx := hy4.put2 (x' := .bool r.g) (y' := .slice A' r.ln c')
    have hbl := (I4.be.setCell (p := ⟨w.heap.size + 1, 0, none⟩) (by simp only; omega) (.bool r.g)).setCell (p := ⟨w.heap.size + 1, 1, none⟩) (by simp only; omega) (.slice A' r.ln c')
    have hO5 := (hO.setO (p := ⟨w.heap.size + 1, 0, none⟩) (by simp only; omega) (.bool r.g)).setO (p := ⟨w.heap.size + 1, 1, none⟩) (by simp only; omega) (.slice A' r.ln c')
    clear z0 z1 f0 f1 x0 x2 x3 v2 v3 y0
    generalize (w3.setCell ⟨w.heap.size + 1, 0, none⟩ (.bool r.g)).setCell ⟨w.heap.size + 1, 1, none⟩ (.slice A' r.ln c') = W5 at *
    have z0 := hBx.c0
    have z1 := hBx.c1
    exact bodyPost_ret (v := .tuple #[.agg #[.bool r.g, .slice A' r.ln c'], .bool true]) (by simp [results, Try.results63, go_sem, z0, z1]) rfl ⟨A', c', by rw [HG.out, HL.out], by rw [HL.out]; exact hO5.mono (by omega), hbl⟩
end Go.Proofs.Ytmcfokeibecopaa
