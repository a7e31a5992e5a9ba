/-
  PACKAGE term: bounded; the reference's Blank.
-/
import Derived.Test.YtbpihjcghmmacaaTmJ
import Derived.Test.YtbpihjcghmmacaaRaw
import Derived.Test.YtbpihjcghmmacaaFltV
namespace Go.Proofs.Ytbpihjcghmmacaa
open Go.RowKit

/-- Do the fields keep the bounds of their kind? -/
def Tm.boundB (t : Tm) : Bool :=
  if t.kind = 1 then decide (-1152921504606846976 ≤ t.num) && decide (t.num ≤ 1152921504606846975)
  else if t.kind = 2 then mayB t.neg t.mag && !smOk t.neg t.mag
  else if t.kind = 3 then cleanI t.bits == t.bits
  else if t.kind = 4 then decide (0 ≤ t.num) && decide (t.num ≤ 255)
  else if t.kind = 5 then decide (0 ≤ t.num) && decide (t.num ≤ 63)
  else if t.kind = 6 then decide (t.args.length ≤ 8)
  else if t.kind = 7 then true
  else if t.kind = 8 then decide (t.args.length = 2)
  else if t.kind = 9 then decide (t.bytes.size ≤ 400)
  else false

set_option maxHeartbeats 4000000 in
theorem bounded_any' (w : World) (k n : Int) (g : Bool) (A : Option Addr) (ln lc : Nat) (u : Int) (s : ByteArray) (B : Option Addr) (m d : Nat) (t : Tm) (h : TV w (TR.mk k n g A ln lc u s B m d) t) :
    Calls Try.prog 57 #[.agg #[.int .i64 k, .int .i64 n, .bool g, .slice A ln lc, .int .u64 u, .string s, .slice B m d]] w fun e w' => e = .returned (.bool t.boundB) ∧ Below w.heap.size w w' := by
  obtain ⟨R, hR⟩ : ∃ R, R = t.boundB := ⟨_, rfl⟩
  rw [← hR]
  have e1 : t.kind = k := h.kind
  have e2 : t.num = n := h.num
  have e3 : t.bits = u := h.bits
  have e4 : t.neg = g := h.neg
  have e5 : t.bytes = s := h.bytes
  have e6 : t.args.length = m := h.len
  unfold Tm.boundB at hR
  rw [e1, e2, e3, e4, e5, e6] at hR
  have hraw : Raw w A ln lc t.mag := ⟨h.flat.lim, h.flat.cap⟩
  have hu : U64 u := ⟨h.flat.u0, by have := h.flat.u1; simp only at this; omega⟩
  have hstr : s.size ≤ maxLen := h.flat.str
  have hmd : m ≤ d := h.flat.md
  have hdd : d ≤ maxLen := h.flat.dd
  have hb0 := (Below.refl w.heap.size w).alloc (Nat.le_refl _) (.cells #[.int .i64 k, .int .i64 n, .bool g, .slice A ln lc, .int .u64 u, .string s, .slice B m d] 28)
  have hraw0 := hraw.below hb0
  have hbx := Box7.new w (TR.mk k n g A ln lc u s B m d)
  generalize t.mag = l at *
  clear e1 e2 e3 e4 e5 e6 h hraw
  have HR := Lib.hid hR
  clear hR
  by_cases h1 : k = 1
  · subst h1
    have hfin := Lib.hid (show R = (decide (-1152921504606846976 ≤ n) && decide (n ≤ 1152921504606846975)) by rw [HR.out]; rfl)
    clear HR hbx
    go_enter Try.func57, Try.ntmps57
    go_wp2
    all_goals
      go_ret
      refine ⟨?_, hb0⟩
      rw [hfin.out]
      first | (simp_all; done) | (simp_all; omega)
  by_cases h2 : k = 2
  · subst h2
    have hfin := Lib.hid (show R = (mayB g l && !smOk g l) by rw [HR.out]; rfl)
    clear HR
    go_enter Try.func57, Try.ntmps57
    go_wp2_with fail
    generalize w.alloc (.cells #[.int .i64 2, .int .i64 n, .bool g, .slice A ln lc, .int .u64 u, .string s, .slice B m d] 28) = W at *
    refine (small_raw W g A ln lc l hraw0).mono ?_
    generalize smZ g l = z
    generalize smOk g l = ok at hfin ⊢
    rintro e w1 ⟨rfl, hb1⟩
    have hbx1 := (hbx.below hb1).at
    have y2 := hbx1.c2
    have y3 := hbx1.c3
    go_wp2_with fail
    refine (may_b w1 g A ln lc l (hraw0.below hb1)).mono ?_
    generalize mayB g l = mb at hfin ⊢
    rintro e w2 ⟨rfl, hb2⟩
    have hb02 := hb0.trans (hb1.mono hb0.size)
    have hb03 := hb02.trans (hb2.mono hb02.size)
    cases mb
    all_goals
      go_wp2
      go_ret
      exact ⟨by rw [hfin.out]; rfl, hb03⟩
  by_cases h3 : k = 3
  · subst h3
    have hfin := Lib.hid (show R = (cleanI u == u) by rw [HR.out]; rfl)
    clear HR hbx
    go_enter Try.func57, Try.ntmps57
    go_wp2_with fail
    refine (may_flt _ u hu).mono ?_
    generalize (cleanI u == u) = c at hfin ⊢
    rintro e w1 ⟨rfl, rfl⟩
    go_wp2
    go_ret
    exact ⟨by rw [hfin.out]; rfl, hb0⟩
  by_cases h4 : k = 4
  · subst h4
    have hfin := Lib.hid (show R = (decide (0 ≤ n) && decide (n ≤ 255)) by rw [HR.out]; rfl)
    clear HR hbx
    go_enter Try.func57, Try.ntmps57
    go_wp2
    all_goals
      go_ret
      refine ⟨?_, hb0⟩
      rw [hfin.out]
      first | (simp_all; done) | (simp_all; omega)
  by_cases h5 : k = 5
  · subst h5
    have hfin := Lib.hid (show R = (decide (0 ≤ n) && decide (n ≤ 63)) by rw [HR.out]; rfl)
    clear HR hbx
    go_enter Try.func57, Try.ntmps57
    go_wp2
    all_goals
      go_ret
      refine ⟨?_, hb0⟩
      rw [hfin.out]
      first | (simp_all; done) | (simp_all; omega)
  by_cases h6 : k = 6
  · subst h6
    have hfin := Lib.hid (show R = decide ((m : Int) ≤ 8) by rw [HR.out]; simp; omega)
    clear HR hbx
    go_enter Try.func57, Try.ntmps57
    go_wp2
    go_ret
    exact ⟨by rw [hfin.out]; rfl, hb0⟩
  by_cases h7 : k = 7
  · subst h7
    have hfin := Lib.hid (show R = true by rw [HR.out]; rfl)
    clear HR hbx
    go_enter Try.func57, Try.ntmps57
    go_wp2
    go_ret
    exact ⟨by rw [hfin.out]; rfl, hb0⟩
  by_cases h8 : k = 8
  · subst h8
    have hfin := Lib.hid (show R = ((m : Int) == 2) by
      rw [HR.out]
      by_cases e : m = 2
      · subst e; rfl
      · rw [beq_eq_false_iff_ne.2 (show (m : Int) ≠ 2 by omega)]
        simp [e])
    clear HR hbx
    go_enter Try.func57, Try.ntmps57
    go_wp2
    go_ret
    exact ⟨by rw [hfin.out]; rfl, hb0⟩
  by_cases h9 : k = 9
  · subst h9
    have hfin := Lib.hid (show R = decide ((s.size : Int) ≤ 400) by rw [HR.out]; simp; omega)
    clear HR hbx
    go_enter Try.func57, Try.ntmps57
    go_wp2
    go_ret
    exact ⟨by rw [hfin.out]; rfl, hb0⟩
  have hfin := Lib.hid (show R = false by rw [HR.out, if_neg h1, if_neg h2, if_neg h3, if_neg h4, if_neg h5, if_neg h6, if_neg h7, if_neg h8, if_neg h9])
  clear HR hbx
  have e1 : (k == 1) = false := beq_eq_false_iff_ne.2 h1
  have e2 : (k == 2) = false := beq_eq_false_iff_ne.2 h2
  have e3 : (k == 3) = false := beq_eq_false_iff_ne.2 h3
  have e4 : (k == 4) = false := beq_eq_false_iff_ne.2 h4
  have e5 : (k == 5) = false := beq_eq_false_iff_ne.2 h5
  have e6 : (k == 6) = false := beq_eq_false_iff_ne.2 h6
  have e7 : (k == 7) = false := beq_eq_false_iff_ne.2 h7
  have e8 : (k == 8) = false := beq_eq_false_iff_ne.2 h8
  have e9 : (k == 9) = false := beq_eq_false_iff_ne.2 h9
  go_enter Try.func57, Try.ntmps57
  go_wp2
  go_ret
  exact ⟨by rw [hfin.out]; rfl, hb0⟩
theorem tbounded_any (w : World) (r : TR) (t : Tm) (h : TV w r t) :
    Calls Try.prog 57 #[.agg #[.int .i64 r.k, .int .i64 r.n, .bool r.g, .slice r.A r.ln r.lc, .int .u64 r.u, .string r.s, .slice r.B r.m r.d]] w fun e w' => e = .returned (.bool t.boundB) ∧ Below w.heap.size w w' :=
  bounded_any' w r.k r.n r.g r.A r.ln r.lc r.u r.s r.B r.m r.d t h
end Go.Proofs.Ytbpihjcghmmacaa
