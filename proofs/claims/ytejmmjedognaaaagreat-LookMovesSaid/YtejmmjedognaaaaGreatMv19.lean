/-
  PACKAGE term: may, May.
  THE ENCODING OF VALID TERMS: what is laid is read again.
  BYTES IN MEMORY: what a slice of bytes holds, rows of bytes of one's own, append, SameBytes.
-/
import Derived.Test.YtejmmjedognaaaaGreatMv18
import Derived.Deep.RegionHeld3
import Derived.Test.YtejmmjedognaaaaGreatMv6
import Derived.Test.YtejmmjedognaaaaGreatMv12
import Derived.Test.YtejmmjedognaaaaGreatMv16
import Derived.Lib.AppendStr
import Derived.Laws.BytesString
namespace Go.Proofs.YtejmmjedognaaaaGreat
open Go.RowKit

mutual
/-- May a term be, but for its weight? -/
def Tm.formB : Tm → Bool
  | .mk k n g l u s ks => Tm.alikeB (.mk k n g l u s ks) (Tm.ment (.mk k n g l u s ks)) && (Tm.boundB (.mk k n g l u s ks) && Tm.formsB ks)
def Tm.formsB : List Tm → Bool
  | [] => true
  | t :: r => Tm.formB t && Tm.formsB r
end
set_option maxRecDepth 100000 in
theorem Tm.formsB_iff {ts : List Tm} : Tm.formsB ts = true ↔ ∀ t ∈ ts, t.formB = true := by
  induction ts with
  | nil => simp [Tm.formsB]
  | cons t r ih => simp [Tm.formsB, ih]
set_option maxRecDepth 100000 in
theorem Tm.formB_eq (t : Tm) : t.formB = (Tm.alikeB t t.ment && (t.boundB && Tm.formsB t.args)) := by cases t; rw [Tm.formB]; rfl
set_option maxRecDepth 100000 in
theorem Tm.formsB_no {ts : List Tm} {j : Nat} {t : Tm} (h : ts[j]? = some t) (e : t.formB = false) : Tm.formsB ts = false := by
  cases h' : Tm.formsB ts with
  | false => rfl
  | true => rw [Tm.formsB_iff.1 h' t (List.mem_of_getElem? h)] at e; cases e
set_option maxRecDepth 100000 in
theorem Tm.formsB_take {ts : List Tm} {j : Nat} {t : Tm} (h : ts[j]? = some t) (e : t.formB = true) (h' : Tm.formsB (ts.take j) = true) : Tm.formsB (ts.take (j + 1)) = true := by
  rw [Tm.formsB_iff] at h' ⊢
  rw [List.take_add_one, h]
  intro x hx
  rcases List.mem_append.1 hx with hx | hx
  · exact h' x hx
  · simp at hx; rw [hx]; exact e

/-- A variable holds a term, in its own block. -/
structure BxI (w : World) (r : TR) (t : Tm) (W : World) : Prop where
  bx : Box7 W w.heap.size r
  tv : TV W r t
  be : Below w.heap.size w W
set_option maxRecDepth 100000 in
theorem BxI.below {w : World} {r : TR} {t : Tm} {W W' : World} (h : BxI w r t W) (hb : Below W.heap.size W W') : BxI w r t W' :=
  ⟨h.bx.below hb, h.tv.bel hb, h.be.trans (hb.mono h.be.size)⟩
set_option maxRecDepth 100000 in
theorem BxI.drew {w : World} {r : TR} {t : Tm} {W : World} (h : BxI w r t W) : BxI w r t W.drew := h.below (Below.refl _ _).drew
set_option maxRecDepth 100000 in
theorem BxI.new {w : World} {r : TR} {t : Tm} (h : TV w r t) : BxI w r t (w.alloc (.cells #[.int .i64 r.k, .int .i64 r.n, .bool r.g, .slice r.A r.ln r.lc, .int .u64 r.u, .string r.s, .slice r.B r.m r.d] 40)) :=
  ⟨Box7.new w r, h.bel ((Below.refl _ _).alloc (Nat.le_refl _) _), (Below.refl _ _).alloc (Nat.le_refl _) _⟩

set_option maxRecDepth 100000 in
set_option maxRecDepth 100000 in
set_option maxHeartbeats 8000000 in
theorem mayT_any (t : Tm) : ∀ (w : World) (r : TR), TV w r t →
    Calls Tryz.prog 151 #[.agg #[.int .i64 r.k, .int .i64 r.n, .bool r.g, .slice r.A r.ln r.lc, .int .u64 r.u, .string r.s, .slice r.B r.m r.d]] w fun e w' => e = .returned (.bool t.formB) ∧ Below w.heap.size w w' := by
  induction t using Tm.ind with
  | h k n g l u s ks ih =>
    intro w r htv
    have IH := Lib.hid ih
    clear ih
    obtain ⟨t, ht⟩ : ∃ t, t = Tm.mk k n g l u s ks := ⟨_, rfl⟩
    have hks : t.args = ks := by rw [ht]; rfl
    rw [← hks] at IH
    rw [← ht] at htv ⊢
    clear hks ht
    obtain ⟨R, hR⟩ : ∃ R, R = t.formB := ⟨_, rfl⟩
    rw [← hR]
    rw [Tm.formB_eq] at hR
    have HR := Lib.hid hR
    clear hR
    have hts := htv.args
    have hml : r.m ≤ maxLen := Nat.le_trans hts.md hts.dd
    have hml' : (r.m : Int) ≤ 9223372036854775807 := by unfold maxLen at hml; omega
    have I := BxI.new htv
    clear htv hts
    go_enter Tryz.func151, Tryz.ntmps151
    go_wp2_with fail
    generalize w.alloc (.cells #[.int .i64 r.k, .int .i64 r.n, .bool r.g, .slice r.A r.ln r.lc, .int .u64 r.u, .string r.s, .slice r.B r.m r.d] 40) = W at *
    have y := I.bx.at
    have y0 := y.c0
    have y1 := y.c1
    have y2 := y.c2
    have y3 := y.c3
    have y4 := y.c4
    have y5 := y.c5
    have y6 := y.c6
    have I3 := I.drew
    clear y I
    cases ha : Tm.alikeB t t.ment with
    | false =>
      have hfin := Lib.hid (show R = false by rw [HR.out, ha]; rfl)
      clear HR
      go_region_with (first
          | (go_at_call 156; have I' := I3; clear I3; refine (ment_any _ r).mono ?_; rintro e v ⟨rfl, hv⟩; have I3 := I'.below hv; clear I' hv y0 y1 y2 y3 y4 y5 y6; have y0 := I3.bx.at.c0; have y1 := I3.bx.at.c1; have y2 := I3.bx.at.c2; have y3 := I3.bx.at.c3; have y4 := I3.bx.at.c4; have y5 := I3.bx.at.c5; have y6 := I3.bx.at.c6)
          | (go_at_call 155; have I' := I3; clear I3; refine (alike_any _ r t (by exact I'.tv) r.ment t.ment (by exact I'.tv.ment)).mono ?_; rw [ha]; rintro e v ⟨rfl, hv⟩; have I3 := I'.below hv; clear I' hv y0 y1 y2 y3 y4 y5 y6; have y0 := I3.bx.at.c0; have y1 := I3.bx.at.c1; have y2 := I3.bx.at.c2; have y3 := I3.bx.at.c3; have y4 := I3.bx.at.c4; have y5 := I3.bx.at.c5; have y6 := I3.bx.at.c6))
      all_goals
        go_wp2
        go_ret
        exact ⟨by rw [hfin.out]; rfl, I3.be⟩
    | true =>
      have hcase := Lib.hid (show R = (t.boundB && Tm.formsB t.args) by rw [HR.out, ha]; rfl)
      clear HR
      go_region_held3 (fun w' => w'.cell? ⟨w.heap.size, 0, none⟩ = some (.int .i64 r.k) ∧ w'.cell? ⟨w.heap.size, 1, none⟩ = some (.int .i64 r.n) ∧ w'.cell? ⟨w.heap.size, 2, none⟩ = some (.bool r.g) ∧ w'.cell? ⟨w.heap.size, 3, none⟩ = some (.slice r.A r.ln r.lc) ∧ w'.cell? ⟨w.heap.size, 4, none⟩ = some (.int .u64 r.u) ∧ w'.cell? ⟨w.heap.size, 5, none⟩ = some (.string r.s) ∧ w'.cell? ⟨w.heap.size, 6, none⟩ = some (.slice r.B r.m r.d))
        (first | exact ⟨y0, y1, y2, y3, y4, y5, y6⟩ | exact ⟨I3.bx.at.c0, I3.bx.at.c1, I3.bx.at.c2, I3.bx.at.c3, I3.bx.at.c4, I3.bx.at.c5, I3.bx.at.c6⟩)
        (first
          | (go_at_call 156; have I' := I3; clear I3; refine (ment_any _ r).mono ?_; rintro e v ⟨rfl, hv⟩; have I3 := I'.below hv; clear I' hv)
          | (go_at_call 155; have I' := I3; clear I3; refine (alike_any _ r t (by exact I'.tv) r.ment t.ment (by exact I'.tv.ment)).mono ?_; rw [ha]; rintro e v ⟨rfl, hv⟩; have I3 := I'.below hv; clear I' hv)
          | (go_at_call 157; have I' := I3; clear I3; refine (tbounded_any _ r t (by exact I'.tv)).mono ?_; rintro e v ⟨rfl, hv⟩; have I3 := I'.below hv; clear I' hv))
      clear y0 y1 y2 y3 y4 y5 y6
      generalize t.boundB = bd at hcase ⊢
      cases bd with
      | false =>
        have hfin := Lib.hid (show R = false by rw [hcase.out]; rfl)
        go_wp2
        go_ret
        exact ⟨by rw [hfin.out]; rfl, I3.be⟩
      | true =>
        have hfin := Lib.hid (show R = Tm.formsB t.args by rw [hcase.out]; rfl)
        clear hcase
        have z6 := I3.bx.at.c6
        simp only [Bool.not_true]
        go_wp2_with fail
        clear z6
        go_loopw [17] (fun i w' => ∃ j : Nat, j ≤ r.m ∧ i = .int .i64 (j : Int) ∧ Hid (Tm.formsB (t.args.take j) = true) ∧ BxI w r t w') (fun i _ => r.m - (intOf i).toNat)
        case atStart => exact ⟨0, Nat.zero_le _, rfl, Lib.hid rfl, I3⟩
        case round =>
          obtain ⟨j, hj, rfl, hz, J⟩ := hrel
          clear I3
          by_cases hjm : j < r.m
          · have hd1 : decide ((j : Int) < (r.m : Int)) = true := by rw [decide_eq_true_iff]; omega
            obtain ⟨b, o, r', t', e, hlt, h7, het, htv'⟩ := J.tv.args.get j hjm
            have hmem := List.mem_of_getElem? het
            have x6 : wr.cell? ⟨w.heap.size, 6, none⟩ = some (.slice r.B r.m r.d) := J.bx.at.c6
            rw [e] at x6
            clear e
            have d0 := h7.c0
            have d1 := h7.c1
            have d2 := h7.c2
            have d3 := h7.c3
            have d4 := h7.c4
            have d5 := h7.c5
            have d6 := h7.c6
            have HJ := Lib.hid J
            clear J
            go_wp2_with fail
            refine (IH.out t' hmem wr r' htv').mono ?_
            rintro e w2 ⟨rfl, hb2⟩
            have J2 := Lib.hid (HJ.out.below hb2)
            cases hf : t'.formB with
            | false =>
              have hfi := Lib.hid (show R = false by rw [hfin.out]; exact Tm.formsB_no het hf)
              go_wp2
              go_ret
              exact ⟨by rw [hfi.out]; rfl, J2.out.be⟩
            | true =>
              have hst := Lib.hid (Tm.formsB_take het hf hz.out)
              go_wp2_with fail
              go_roundw
              case rel => exact ⟨j + 1, by omega, by go_num, hst, J2.out⟩
              case measure => simp [intOf]; omega
          · have hd1 : decide ((j : Int) < (r.m : Int)) = false := by rw [decide_eq_false_iff_not]; omega
            have hfi := Lib.hid (show R = true by
              rw [hfin.out]
              have := hz.out
              rw [List.take_of_length_le (by rw [J.tv.len]; omega)] at this
              exact this)
            go_wp2
            go_ret
            exact ⟨by rw [hfi.out]; rfl, J.be⟩

/-- May a term be? -/
def Tm.mayB (t : Tm) : Bool := decide (t.cap ≤ 300) && t.formB

set_option maxRecDepth 100000 in
set_option maxHeartbeats 2000000 in
theorem mayTerm_any (w : World) (r : TR) (t : Tm) (h : TV w r t) (ho : t.Ok) :
    Calls Tryz.prog 143 #[.agg #[.int .i64 r.k, .int .i64 r.n, .bool r.g, .slice r.A r.ln r.lc, .int .u64 r.u, .string r.s, .slice r.B r.m r.d]] w fun e w' => e = .returned (.bool t.mayB) ∧ Below w.heap.size w w' := by
  obtain ⟨R, hR⟩ : ∃ R, R = t.mayB := ⟨_, rfl⟩
  rw [← hR]
  have HR := Lib.hid hR
  clear hR
  have I := BxI.new h
  go_enter Tryz.func143, Tryz.ntmps143
  go_wp2_with fail
  generalize w.alloc (.cells #[.int .i64 r.k, .int .i64 r.n, .bool r.g, .slice r.A r.ln r.lc, .int .u64 r.u, .string r.s, .slice r.B r.m r.d] 40) = W at *
  refine (weight_any W r t I.tv ho).mono ?_
  rintro e w1 ⟨rfl, hb1⟩
  have I1 := I.below hb1
  clear I
  have y := I1.bx.at
  have y0 := y.c0
  have y1 := y.c1
  have y2 := y.c2
  have y3 := y.c3
  have y4 := y.c4
  have y5 := y.c5
  have y6 := y.c6
  by_cases hc : t.cap ≤ 300
  · have hfin := Lib.hid (show R = t.formB by rw [HR.out, Tm.mayB, decide_eq_true hc]; rfl)
    have hd : decide ((t.cap : Int) ≤ 300) = true := by rw [decide_eq_true_iff]; omega
    clear HR hc y
    go_wp2_with fail
    refine (mayT_any t w1 r I1.tv).mono ?_
    rintro e w2 ⟨rfl, hb2⟩
    have I2 := I1.below hb2
    generalize t.formB = f at hfin ⊢
    go_wp2
    go_ret
    exact ⟨by rw [hfin.out]; rfl, I2.be⟩
  · have hfin := Lib.hid (show R = false by rw [HR.out, Tm.mayB, decide_eq_false hc]; rfl)
    have hd : decide ((t.cap : Int) ≤ 300) = false := by rw [decide_eq_false_iff_not]; omega
    clear HR hc y
    go_wp2
    go_ret
    exact ⟨by rw [hfin.out]; rfl, I1.be⟩
end Go.Proofs.YtejmmjedognaaaaGreat

namespace Go.Proofs.YtejmmjedognaaaaGreat
namespace Wr

set_option maxRecDepth 100000 in
theorem ment_of {t : Tm} (h : Tm.alikeB t t.ment = true) : t = t.ment := by
  simp only [Tm.alikeB, Bool.and_eq_true, beq_iff_eq, decide_eq_true_eq] at h
  obtain ⟨⟨⟨⟨⟨h1, h2⟩, h3⟩, h4⟩, h5⟩, h6, h7⟩ := h
  cases t with
  | mk k n g l u s ks =>
    have ha : ks = (Tm.ment (.mk k n g l u s ks)).args := by
      simp only [Tm.ment] at h7 ⊢
      split
      · rw [if_pos ‹_›] at h7; simp only [Tm.args, List.length_nil, List.length_eq_zero_iff] at h7 ⊢; exact h7
      rw [if_neg ‹_›] at h7
      split
      · rw [if_pos ‹_›] at h7; simp only [Tm.args, List.length_nil, List.length_eq_zero_iff] at h7 ⊢; exact h7
      rw [if_neg ‹_›] at h7
      split
      · rw [if_pos ‹_›] at h7; simp only [Tm.args, List.length_nil, List.length_eq_zero_iff] at h7 ⊢; exact h7
      rw [if_neg ‹_›] at h7
      split
      · rfl
      rw [if_neg ‹_›] at h7
      split
      · rw [if_pos ‹_›] at h7; simp only [Tm.args, List.length_nil, List.length_eq_zero_iff] at h7 ⊢; exact h7
      rw [if_neg ‹_›] at h7
      split
      · rw [if_pos ‹_›] at h7; simp only [Tm.args, List.length_nil, List.length_eq_zero_iff] at h7 ⊢; exact h7
      rw [if_neg ‹_›] at h7
      simp only [Tm.args, List.length_nil, List.length_eq_zero_iff] at h7 ⊢; exact h7
    generalize Tm.ment (.mk k n g l u s ks) = t' at *
    cases t'
    simp only [Tm.kind, Tm.num, Tm.neg, Tm.mag, Tm.bits, Tm.bytes, Tm.args] at *
    subst h1 h2 h3 h4 h5 h6 ha
    rfl
set_option maxRecDepth 100000 in
/-- What a valid term is, kind by kind. -/
theorem form_cases {t : Tm} (h : t.formB = true) :
    (∃ n, t = .mk 1 n false [] 0 ⟨#[]⟩ [] ∧ -1152921504606846976 ≤ n ∧ n ≤ 1152921504606846975) ∨ (∃ g l, t = .mk 2 0 g l 0 ⟨#[]⟩ [] ∧ l.length ≤ 8) ∨ (∃ u, t = .mk 3 0 false [] u ⟨#[]⟩ []) ∨
    (∃ k n, t = .mk k n false [] 0 ⟨#[]⟩ [] ∧ (k = 4 ∨ k = 5) ∧ 0 ≤ n ∧ n ≤ 255) ∨ (∃ ks, t = .mk 6 0 false [] 0 ⟨#[]⟩ ks ∧ ks.length ≤ 8 ∧ ∀ x ∈ ks, x.formB = true) ∨ t = .mk 7 0 false [] 0 ⟨#[]⟩ [] ∨
    (∃ ks, t = .mk 8 0 false [] 0 ⟨#[]⟩ ks ∧ ks.length = 2 ∧ ∀ x ∈ ks, x.formB = true) ∨ (∃ s, t = .mk 9 0 false [] 0 s [] ∧ s.size ≤ 400) := by
  rw [Tm.formB_eq, Bool.and_eq_true, Bool.and_eq_true, Tm.formsB_iff] at h
  obtain ⟨h1, h2, h3⟩ := h
  have hm := ment_of h1
  clear h1
  cases t with
  | mk k n g l u s ks =>
    unfold Tm.boundB at h2
    change (if k = 1 then decide (-1152921504606846976 ≤ n) && decide (n ≤ 1152921504606846975)
      else if k = 2 then mayB g l && !smOk g l
      else if k = 3 then cleanI u == u
      else if k = 4 then decide (0 ≤ n) && decide (n ≤ 255)
      else if k = 5 then decide (0 ≤ n) && decide (n ≤ 63)
      else if k = 6 then decide (ks.length ≤ 8)
      else if k = 7 then true
      else if k = 8 then decide (ks.length = 2)
      else if k = 9 then decide (s.size ≤ 400)
      else false) = true at h2
    change ∀ x ∈ ks, x.formB = true at h3
    simp only [Tm.ment] at hm
    by_cases e1 : k = 1
    · subst e1
      simp at hm h2
      exact .inl ⟨n, by rw [hm.1, hm.2.1, hm.2.2.1, hm.2.2.2.1, hm.2.2.2.2], by omega, by omega⟩
    by_cases e2 : k = 2
    · subst e2
      simp at hm h2
      exact .inr (.inl ⟨g, l, by rw [hm.1, hm.2.1, hm.2.2.1, hm.2.2.2], mayB_len h2.1⟩)
    by_cases e3 : k = 3
    · subst e3
      simp at hm
      exact .inr (.inr (.inl ⟨u, by rw [hm.1, hm.2.1, hm.2.2.1, hm.2.2.2.1, hm.2.2.2.2]⟩))
    by_cases e4 : k = 4 ∨ k = 5
    · refine .inr (.inr (.inr (.inl ⟨k, n, ?_, e4, ?_⟩)))
      · rcases e4 with rfl | rfl <;> simp at hm <;> rw [hm.1, hm.2.1, hm.2.2.1, hm.2.2.2.1, hm.2.2.2.2]
      · rcases e4 with rfl | rfl <;> simp at h2 <;> omega
    by_cases e6 : k = 6
    · subst e6
      simp at hm h2
      exact .inr (.inr (.inr (.inr (.inl ⟨ks, by rw [hm.1, hm.2.1, hm.2.2.1, hm.2.2.2.1, hm.2.2.2.2], h2, h3⟩))))
    by_cases e7 : k = 7
    · subst e7
      simp at hm
      exact .inr (.inr (.inr (.inr (.inr (.inl (by rw [hm.1, hm.2.1, hm.2.2.1, hm.2.2.2.1, hm.2.2.2.2.1, hm.2.2.2.2.2]))))))
    by_cases e8 : k = 8
    · subst e8
      simp at hm h2
      exact .inr (.inr (.inr (.inr (.inr (.inr (.inl ⟨ks, by rw [hm.1, hm.2.1, hm.2.2.1, hm.2.2.2.1, hm.2.2.2.2], h2, h3⟩))))))
    by_cases e9 : k = 9
    · subst e9
      simp at hm h2
      exact .inr (.inr (.inr (.inr (.inr (.inr (.inr ⟨s, by rw [hm.1, hm.2.1, hm.2.2.1, hm.2.2.2.1, hm.2.2.2.2], h2⟩))))))
    · exfalso
      rw [if_neg e1, if_neg e2, if_neg e3, if_neg (by omega), if_neg (by omega), if_neg e6, if_neg e7, if_neg e8, if_neg e9] at h2
      cases h2
set_option maxRecDepth 100000 in
theorem size_wt (t : Tm) : t.formB = true → t.size ≤ t.wt := by
  induction t using Tm.ind with
  | h k n g l u s ks ih =>
    intro hf
    have hsum : (∀ x ∈ ks, x.formB = true) → ∀ xs : List Tm, (∀ x ∈ xs, x ∈ ks) → Tm.size.sizes xs ≤ Tm.wts xs := by
      intro hk xs
      induction xs with
      | nil => intro _; simp [Tm.size.sizes, Tm.wts]
      | cons x r ihr =>
        intro hx
        have h1 := ih x (hx x (by simp)) (hk x (hx x (by simp)))
        have h2 := ihr fun y hy => hx y (by simp [hy])
        simp only [Tm.size.sizes, Tm.wts]
        omega
    have leaf : ks = [] → Tm.size (.mk k n g l u s ks) ≤ Tm.wt (.mk k n g l u s ks) := by
      rintro rfl
      have := Tm.wt_pos (.mk k n g l u s [])
      rw [Tm.size]
      simp only [Tm.size.sizes]
      omega
    rcases form_cases hf with ⟨_, e, _⟩ | ⟨_, _, e, _⟩ | ⟨_, e⟩ | ⟨_, _, e, _⟩ | ⟨ks', e, _, hk⟩ | e | ⟨ks', e, _, hk⟩ | ⟨_, e, _⟩
    all_goals injection e with e1 e2 e3 e4 e5 e6 e7
    case inr.inr.inr.inr.inl =>
      subst e7
      have := hsum hk ks fun _ h => h
      rw [Tm.size, Tm.wt, if_neg (by omega), if_neg (by omega), if_pos (by omega)]
      omega
    case inr.inr.inr.inr.inr.inr.inl =>
      subst e7
      have := hsum hk ks fun _ h => h
      rw [Tm.size, Tm.wt, if_neg (by omega), if_neg (by omega), if_pos (by omega)]
      omega
    all_goals exact leaf e7
set_option maxRecDepth 100000 in
theorem enc_short (t : Tm) : t.formB = true → (enc t).length ≤ 500 * t.size := by
  induction t using Tm.ind with
  | h k n g l u s ks ih =>
    intro hf
    have hsum : (∀ x ∈ ks, x.formB = true) → ∀ xs : List Tm, (∀ x ∈ xs, x ∈ ks) → (encs xs).length ≤ 500 * Tm.size.sizes xs := by
      intro hk xs
      induction xs with
      | nil => intro _; simp [encs]
      | cons x r ihr =>
        intro hx
        have h1 := ih x (hx x (by simp)) (hk x (hx x (by simp)))
        have h2 := ihr fun y hy => hx y (by simp [hy])
        rw [encs, List.length_append, Tm.size.sizes]
        omega
    have h2 := body_len k n g l u s ks.length
    have h3 : l.length ≤ 8 ∧ s.size ≤ 400 ∧ (encs ks).length ≤ 500 * Tm.size.sizes ks := by
      have z : (⟨#[]⟩ : ByteArray).size = 0 := rfl
      rcases form_cases hf with ⟨_, e, _⟩ | ⟨_, _, e, b⟩ | ⟨_, e⟩ | ⟨_, _, e, _⟩ | ⟨ks', e, _, hk⟩ | e | ⟨ks', e, _, hk⟩ | ⟨_, e, b⟩
      all_goals injection e with e1 e2 e3 e4 e5 e6 e7
      case inr.inr.inr.inr.inl =>
        subst e7
        exact ⟨by rw [e4]; simp, by rw [e6, z]; omega, hsum hk ks fun _ h => h⟩
      case inr.inr.inr.inr.inr.inr.inl =>
        subst e7
        exact ⟨by rw [e4]; simp, by rw [e6, z]; omega, hsum hk ks fun _ h => h⟩
      case inr.inl =>
        exact ⟨by rw [e4]; exact b, by rw [e6, z]; omega, by rw [e7]; simp [encs]⟩
      case inr.inr.inr.inr.inr.inr.inr =>
        exact ⟨by rw [e4]; simp, by rw [e6]; exact b, by rw [e7]; simp [encs]⟩
      all_goals exact ⟨by rw [e4]; simp, by rw [e6, z]; omega, by rw [e7]; simp [encs]⟩
    rw [enc, Tm.size, List.length_cons, List.length_append]
    omega
set_option maxRecDepth 100000 in
theorem may_size {t : Tm} (h : t.mayB = true) : t.formB = true ∧ t.size ≤ 300 := by
  unfold Tm.mayB at h
  rw [Bool.and_eq_true, decide_eq_true_eq] at h
  have h1 := size_wt t h.2
  have h2 := h.1
  unfold Tm.cap at h2
  exact ⟨h.2, by omega⟩

set_option maxRecDepth 100000 in
theorem here {B x r : List Nat} {a : Nat} (h : B.drop a = x ++ r) : (B.drop a).take x.length = x ∧ B.drop (a + x.length) = r := by
  constructor
  · rw [h, List.take_left]
  · rw [← List.drop_drop, h, List.drop_left]
set_option maxRecDepth 100000 in
theorem here_len {B x r : List Nat} {a : Nat} (ha : a ≤ B.length) (h : B.drop a = x ++ r) : a + x.length ≤ B.length := by
  have := congrArg List.length h
  rw [List.length_drop, List.length_append] at this
  omega
set_option maxRecDepth 100000 in
theorem val_here {B x r : List Nat} {a : Nat} (h : B.drop a = x ++ r) {m : Nat} (hm : x.length = m) : val B a m = beq x := by
  unfold val
  rw [← hm, (here h).1]
set_option maxRecDepth 100000 in
theorem limbs_here {B : List Nat} : ∀ (l : List Nat) (r : List Nat) (a : Nat), (∀ x ∈ l, x < 4294967296) → B.drop a = limbs l ++ r → limbsAt B a l.length = l
  | [], _, _, _, _ => rfl
  | x :: l, r, a, hs, h => by
    have h1 : B.drop a = bes x 4 ++ (limbs l ++ r) := by rw [h]; simp [limbs]
    have h2 := (here h1).2
    rw [bes_len] at h2
    have ih := limbs_here l r (a + 4) (fun y hy => hs y (by simp [hy])) h2
    have hv := val_here h1 (bes_len x 4)
    rw [beq_bes, Nat.mod_eq_of_lt (hs x (by simp))] at hv
    unfold limbsAt at ih ⊢
    rw [List.length_cons, List.range_succ_eq_map, List.map_cons, List.map_map, Nat.mul_zero, Nat.add_zero, hv]
    congr 1
    rw [← ih, List.length_map, List.length_range]
    apply List.map_congr_left
    intro i _
    show val B (a + 4 * (i + 1)) 4 = val B (a + 4 + 4 * i) 4
    congr 1
    omega

set_option maxRecDepth 100000 in
/-- What is laid is read again. -/
theorem dec_enc {S : Bool} {B : List Nat} (t : Tm) : t.formB = true → Fit t → ∀ (f p a : Nat) (r : List Nat), t.size ≤ p → p ≤ f → a ≤ B.length → B.drop a = enc t ++ r →
    dec S B f p a = some (t, p - t.size, a + (enc t).length) := by
  induction t using Tm.ind with
  | h k n g l u s ks ih =>
    intro hf hfit f p a r hp hpf ha hB
    have hfit := fit_mk.1 hfit
    have hsz : 1 ≤ Tm.size (.mk k n g l u s ks) := by rw [Tm.size]; omega
    obtain ⟨f, rfl⟩ : ∃ f', f = f' + 1 := ⟨f - 1, by omega⟩
    have hs : (∀ x ∈ ks, x.formB = true) → ∀ (q c : Nat) (r : List Nat), Tm.size.sizes ks ≤ q → q ≤ f → c ≤ B.length → B.drop c = encs ks ++ r → ∀ j, j ≤ ks.length →
        decs (dec S B f) j q c = some (ks.take j, q - Tm.size.sizes (ks.take j), c + (encs (ks.take j)).length) := by
      intro hk q c r hq hqf hc hBc j
      induction j with
      | zero => intro _; simp [decs, Tm.size.sizes, encs]
      | succ j ihj =>
        intro hj
        have hg : ks[j]? = some ks[j] := List.getElem?_eq_getElem (by omega)
        have hmem : ks[j] ∈ ks := List.getElem_mem (by omega)
        have e1 : ks.take (j + 1) = ks.take j ++ [ks[j]] := by rw [List.take_add_one, hg]; rfl
        have e2 : encs (ks.take (j + 1)) = encs (ks.take j) ++ enc ks[j] := encs_take hg
        have e3 : Tm.size.sizes (ks.take (j + 1)) = Tm.size.sizes (ks.take j) + ks[j].size := by rw [e1, sizes_append, Tm.size.sizes, Tm.size.sizes, Nat.add_zero]
        have e4 : encs ks = encs (ks.take (j + 1)) ++ encs (ks.drop (j + 1)) := by rw [← encs_append, List.take_append_drop]
        have e5 : Tm.size.sizes ks = Tm.size.sizes (ks.take (j + 1)) + Tm.size.sizes (ks.drop (j + 1)) := by rw [← sizes_append, List.take_append_drop]
        have hB1 : B.drop c = encs (ks.take j) ++ (enc ks[j] ++ (encs (ks.drop (j + 1)) ++ r)) := by rw [hBc, e4, e2, List.append_assoc, List.append_assoc]
        have h1 := ih ks[j] hmem (hk _ hmem) (hfit.2.2.2 _ hmem) f (q - Tm.size.sizes (ks.take j)) (c + (encs (ks.take j)).length) _ (by omega) (by omega) (here_len hc hB1) (here hB1).2
        rw [decs_step (ihj (by omega)), h1, e2, e3, e1, List.length_append]
        simp only [Option.map_some]
        rw [Nat.sub_sub, Nat.add_assoc]
    rw [enc] at hB ⊢
    have hB1 : B.drop a = [(k % 256).toNat] ++ (body k n g l u s ks.length ++ (encs ks ++ r)) := by rw [hB]; simp
    have hl1 := here_len ha hB1
    have hv1 : val B a 1 = (k % 256).toNat := by rw [val_here hB1 (m := 1) rfl]; simp [beq]
    have hB2 := (here hB1).2
    simp only [List.length_singleton] at hl1 hB2
    rw [dec, if_neg (by omega), hv1]
    rcases form_cases hf with ⟨n', e, b1, b2⟩ | ⟨g', l', e, b⟩ | ⟨u', e⟩ | ⟨k', n', e, bk, b1, b2⟩ | ⟨ks', e, b, hk⟩ | e | ⟨ks', e, b, hk⟩ | ⟨s', e, b⟩
    all_goals injection e with e1 e2 e3 e4 e5 e6 e7
    · subst e1 e2 e3 e4 e5 e6 e7
      rw [body, if_pos rfl] at hB2
      have hl2 := here_len (by omega) hB2
      have hv := val_here hB2 (bes_len _ 8)
      rw [bes_len] at hl2
      rw [beq_bes] at hv
      rw [if_pos (by decide), if_neg (by omega), hv, Tm.size, Tm.size.sizes, body, if_pos rfl, List.length_cons, List.length_append, bes_len, encs]
      have : si64 ((n % 18446744073709551616).toNat % 256 ^ 8) = n := by unfold si64; split <;> omega
      rw [this]
      rfl
    · subst e1 e2 e4 e5 e6 e7
      subst e3
      have hbd : body 2 0 g l 0 ⟨#[]⟩ ([] : List Tm).length = (if g = true then 1 else 0) :: l.length % 256 :: limbs l := by rw [body, if_neg (by decide), if_pos rfl]
      rw [hbd] at hB2 ⊢
      have q1 : B.drop (a + 1) = [if g = true then 1 else 0] ++ ([l.length % 256] ++ (limbs l ++ ([] ++ r))) := by rw [hB2]; simp [encs]
      have q2 : B.drop (a + 2) = [l.length % 256] ++ (limbs l ++ ([] ++ r)) := (here q1).2
      have q3 : B.drop (a + 3) = limbs l ++ ([] ++ r) := (here q2).2
      have v1 : val B (a + 1) 1 = if g = true then 1 else 0 := by rw [val_here q1 (m := 1) rfl]; simp [beq]
      have v2 : val B (a + 2) 1 = l.length := by
        rw [val_here q2 (m := 1) rfl]
        simp [beq]
        omega
      have p1 : a + 1 + 1 ≤ B.length := here_len (by omega) q1
      have p2 : a + 2 + 1 ≤ B.length := here_len (by omega) q2
      have p3 := here_len (by omega) q3
      rw [limbs_len] at p3
      have hlm := limbs_here l _ _ hfit.1 q3
      have hg : decide ((if g = true then 1 else 0) = 1) = g := by cases g <;> rfl
      have hg2 : ¬ 1 < (if g = true then 1 else 0) := by cases g <;> decide
      rw [if_neg (by decide), if_pos (by decide), v1, v2, if_neg (by
        rintro (h | h | h | h)
        · omega
        · exact hg2 h
        · omega
        · omega), hlm, hg, Tm.size, Tm.size.sizes, List.length_cons, List.length_append, List.length_cons, List.length_cons, limbs_len, encs, List.length_nil]
      congr 3
      omega
    · subst e1 e2 e3 e4 e6 e7
      subst e5
      rw [body, if_neg (by decide), if_neg (by decide), if_pos rfl] at hB2
      have hl2 := here_len (by omega) hB2
      have hv := val_here hB2 (bes_len _ 8)
      rw [bes_len] at hl2
      rw [beq_bes] at hv
      rw [if_neg (by decide), if_neg (by decide), if_pos (by decide), if_neg (by omega), hv, Tm.size, Tm.size.sizes, body, if_neg (by decide), if_neg (by decide), if_pos rfl, List.length_cons, List.length_append, bes_len, encs]
      have : (((u.toNat % 256 ^ 8 : Nat)) : Int) = u := by have := hfit.2.1; have := hfit.2.2.1; omega
      rw [this]
      rfl
    · subst e1 e2 e3 e4 e5 e6 e7
      have hbd : body k n false [] 0 ⟨#[]⟩ ([] : List Tm).length = [(n % 256).toNat] := by rw [body, if_neg (by omega), if_neg (by omega), if_neg (by omega), if_pos bk]
      rw [hbd] at hB2 ⊢
      have hl2 := here_len (by omega) hB2
      have hv : val B (a + 1) 1 = (n % 256).toNat := by rw [val_here hB2 (m := 1) rfl]; simp [beq]
      simp only [List.length_singleton] at hl2
      rw [if_neg (by omega), if_neg (by omega), if_neg (by omega), if_pos (by omega), if_neg (by omega), hv, Tm.size, Tm.size.sizes, encs]
      have y1 : (((k % 256).toNat : Nat) : Int) = k := by omega
      have y2 : (((n % 256).toNat : Nat) : Int) = n := by omega
      rw [y1, y2]
      rfl
    · subst e1 e2 e3 e4 e5 e6
      subst e7
      have hbd : body 6 0 false [] 0 ⟨#[]⟩ ks.length = [ks.length % 256] := by rw [body, if_neg (by omega), if_neg (by omega), if_neg (by omega), if_neg (by omega), if_pos rfl]
      rw [hbd] at hB2 ⊢
      have hl2 := here_len (by omega) hB2
      have hv : val B (a + 1) 1 = ks.length := by rw [val_here hB2 (m := 1) rfl]; simp [beq]; omega
      have hB3 := (here hB2).2
      simp only [List.length_singleton] at hl2 hB3
      rw [Tm.size] at hp ⊢
      have := hs hk (p - 1) (a + 2) r (by omega) (by omega) (by omega) hB3 ks.length (Nat.le_refl _)
      rw [List.take_length] at this
      rw [if_neg (by decide), if_neg (by decide), if_neg (by decide), if_neg (by decide), if_pos (by decide), if_neg (by omega), hv, this]
      simp only [Option.map_some, List.length_cons, List.length_append, List.length_nil]
      congr 3
      · omega
      · omega
    · subst e1 e2 e3 e4 e5 e6 e7
      have hbd : body 7 0 false [] 0 ⟨#[]⟩ ([] : List Tm).length = [] := by rw [body, if_neg (by omega), if_neg (by omega), if_neg (by omega), if_neg (by omega), if_neg (by omega), if_neg (by omega)]
      rw [hbd, if_neg (by decide), if_neg (by decide), if_neg (by decide), if_neg (by decide), if_neg (by decide), if_pos (by decide), Tm.size, Tm.size.sizes, encs]
      rfl
    · subst e1 e2 e3 e4 e5 e6
      subst e7
      have hbd : body 8 0 false [] 0 ⟨#[]⟩ ks.length = [] := by rw [body, if_neg (by omega), if_neg (by omega), if_neg (by omega), if_neg (by omega), if_neg (by omega), if_neg (by omega)]
      rw [hbd] at hB2 ⊢
      rw [List.nil_append] at hB2
      rw [Tm.size] at hp ⊢
      have := hs hk (p - 1) (a + 1) r (by omega) (by omega) (by omega) hB2 ks.length (Nat.le_refl _)
      rw [List.take_length, b] at this
      rw [if_neg (by decide), if_neg (by decide), if_neg (by decide), if_neg (by decide), if_neg (by decide), if_neg (by decide), if_pos (by decide), this]
      simp only [Option.map_some, List.length_cons, List.nil_append]
      congr 3
      · omega
      · omega
    · subst e1 e2 e3 e4 e5 e7
      subst e6
      have hbd : body 9 0 false [] 0 s ([] : List Tm).length = bes s.size 2 ++ txt s := by rw [body, if_neg (by omega), if_neg (by omega), if_neg (by omega), if_neg (by omega), if_neg (by omega), if_pos rfl]
      rw [hbd] at hB2 ⊢
      rw [List.append_assoc] at hB2
      have hl2 := here_len (by omega) hB2
      have hv := val_here hB2 (bes_len _ 2)
      have hB3 := (here hB2).2
      rw [bes_len] at hl2 hB3
      have hl3 := here_len (by omega) hB3
      have hx := (here hB3).1
      rw [txt_len] at hl3 hx
      have hv2 : val B (a + 1) 2 = s.size := by rw [hv, beq_bes]; omega
      rw [if_neg (by decide), if_neg (by decide), if_neg (by decide), if_neg (by decide), if_neg (by decide), if_neg (by decide), if_neg (by decide), if_pos (by decide), hv2, if_neg (by omega), show a + 3 = a + 1 + 2 from rfl, hx, str_txt, Tm.size, Tm.size.sizes, List.length_cons, List.length_append, List.length_append, bes_len, txt_len, encs, List.length_nil]
      congr 3
      omega

/-- What Read answers: the term, and where it ends. -/
def readO (S : Bool) (B : List Nat) (a : Nat) : Option (Tm × Nat) :=
  match dec S B 300 300 a with
  | some (t, _, c) => if t.mayB = true then some (t, c) else none
  | none => none
set_option maxRecDepth 100000 in
theorem readO_some {S : Bool} {B : List Nat} (hB : Small B) {a : Nat} {t : Tm} {c : Nat} (h : readO S B a = some (t, c)) :
    t.mayB = true ∧ t.Ok ∧ Fit t ∧ a ≤ c ∧ c ≤ B.length ∧ enc t = (B.drop a).take (c - a) := by
  unfold readO at h
  split at h
  · rename_i t' q c' e
    by_cases hm : t'.mayB = true
    · rw [if_pos hm] at h
      cases h
      obtain ⟨h1, h2, _, h4, h5⟩ := dec_back hB _ _ _ _ _ _ e
      exact ⟨hm, h4.1, h4.2, h1, h2, h5⟩
    · rw [if_neg hm] at h; cases h
  · cases h
set_option maxRecDepth 100000 in
theorem readO_of {S : Bool} {B : List Nat} {a : Nat} {t : Tm} (ha : a ≤ B.length) (hm : t.mayB = true) (hf : Fit t) {r : List Nat} (h : B.drop a = enc t ++ r) : readO S B a = some (t, a + (enc t).length) := by
  obtain ⟨h1, h2⟩ := may_size hm
  unfold readO
  rw [dec_enc t h1 hf 300 300 a r h2 (Nat.le_refl _) ha h]
  simp only [hm, if_true]
set_option maxRecDepth 100000 in
theorem readO_turn {S S' : Bool} {B : List Nat} (hB : Small B) {a : Nat} {t : Tm} {c : Nat} (h : readO S B a = some (t, c)) : readO S' B a = some (t, c) := by
  obtain ⟨h1, _, h3, h4, h5, h6⟩ := readO_some hB h
  have hl : (enc t).length = c - a := by rw [h6, List.length_take, List.length_drop]; omega
  have := readO_of (S := S') (B := B) (a := a) (r := (B.drop a).drop (c - a)) (by omega) h1 h3 (by rw [h6, List.take_append_drop])
  rw [this, hl]
  congr 2
  omega
set_option maxRecDepth 100000 in
/-- The strict reader and the loose one answer the same. -/
theorem readO_same {B : List Nat} (hB : Small B) (a : Nat) : readO true B a = readO false B a := by
  cases h : readO true B a with
  | some x => exact (readO_turn hB h).symm
  | none =>
    cases h' : readO false B a with
    | none => rfl
    | some x => rw [readO_turn hB h'] at h; cases h
set_option maxRecDepth 100000 in
/-- Cut short, what was laid is none. -/
theorem readO_cut {B : List Nat} {a m : Nat} {t : Tm} {r : List Nat} (hB : Small B) (ha : a ≤ B.length) (hm : t.mayB = true) (hf : Fit t) (h : B.drop a = enc t ++ r) (hc : m < a + (enc t).length) : readO true (B.take m) a = none := by
  cases h' : readO true (B.take m) a with
  | none => rfl
  | some x =>
    exfalso
    obtain ⟨u, c⟩ := x
    obtain ⟨h1, _, h3, h4, h5, h6⟩ := readO_some (small_take hB m) h'
    rw [List.length_take] at h5
    have e1 : enc u = (B.drop a).take (c - a) := by
      rw [h6, List.drop_take, List.take_take, Nat.min_eq_left (by omega)]
    have e2 := readO_of (S := true) (B := B) (a := a) (r := (B.drop a).drop (c - a)) ha h1 h3 (by rw [e1, List.take_append_drop])
    have e3 := readO_of (S := true) ha hm hf h
    rw [e2] at e3
    have hl : (enc u).length ≤ c - a := by rw [e1]; exact List.length_take_le _ _
    simp only [Option.some.injEq, Prod.mk.injEq] at e3
    omega
set_option maxRecDepth 100000 in
theorem readO_out {S : Bool} {B : List Nat} {a : Nat} (h : B.length ≤ a) : readO S B a = none := by
  unfold readO
  rw [dec, if_pos (by omega)]
end Wr
end Go.Proofs.YtejmmjedognaaaaGreat

namespace Go.Proofs.YtejmmjedognaaaaGreat
open Go.RowKit

/-- The slice 'A, n, c' holds the limbs l. -/
def By (w : World) (A : Option Addr) (n c : Nat) (l : List Nat) : Prop :=
  l.length = n ∧ n ≤ c ∧ Wr.Small l ∧ (0 < n → ∃ b o, A = some ⟨b, o, none⟩ ∧ b < w.heap.size ∧ ∀ j, j < n → w.cell? ⟨b, o + j, none⟩ = some (.int .u8 (Lm.lg l j : Nat)))

set_option maxRecDepth 100000 in
theorem By.below {w w' : World} {A : Option Addr} {n c : Nat} {l : List Nat} (h : By w A n c l) (hb : Below w.heap.size w w') : By w' A n c l := by
  refine ⟨h.1, h.2.1, h.2.2.1, fun hn => ?_⟩
  obtain ⟨b, o, e, hlt, hc⟩ := h.2.2.2 hn
  exact ⟨b, o, e, Nat.lt_of_lt_of_le hlt hb.size, fun j hj => (hb.cell (p := ⟨b, o + j, none⟩) hlt).trans (hc j hj)⟩
set_option maxRecDepth 100000 in
theorem By.alloc {w : World} {A : Option Addr} {n c : Nat} {l : List Nat} (h : By w A n c l) (o : Obj) : By (w.alloc o) A n c l :=
  h.below ((Below.refl _ _).alloc (Nat.le_refl _) o)
set_option maxRecDepth 100000 in
theorem By.nil (w : World) (A : Option Addr) (c : Nat) : By w A 0 c [] := ⟨rfl, Nat.zero_le _, Wr.small_nil, fun h => absurd h (by omega)⟩
set_option maxRecDepth 100000 in
theorem By.take {w : World} {A : Option Addr} {n c : Nat} {l : List Nat} (h : By w A n c l) (k : Nat) (hk : k ≤ n) : By w A k c (l.take k) := by
  refine ⟨by rw [List.length_take, h.1]; omega, Nat.le_trans hk h.2.1, Wr.small_take h.2.2.1 k, fun hn => ?_⟩
  obtain ⟨b, o, e, hlt, hc⟩ := h.2.2.2 (by omega)
  refine ⟨b, o, e, hlt, fun j hj => ?_⟩
  rw [hc j (by omega), Lm.lg_take hj]

set_option maxRecDepth 100000 in
theorem By.drewN {w : World} {A : Option Addr} {n c : Nat} {l : List Nat} (h : By w A n c l) (q : Nat) : By (w.drewN q) A n c l := h
set_option maxRecDepth 100000 in
theorem und_bytes : Tryz.prog.underlying 163 = some (.slice 5) := by kernel_rfl
set_option maxRecDepth 100000 in
theorem info_byte : (Tryz.prog.info? 5).map (fun i => (i.zero, i.size, i.bytes)) = some (some (.int .u8 0), 1, 1) := by kernel_rfl
set_option maxRecDepth 100000 in
theorem info_byte' : ∃ i, Tryz.prog.info? 5 = some i ∧ i.zero = some (.int .u8 0) ∧ i.size = 1 ∧ i.bytes = 1 := by
  have h := info_byte
  cases hi : Tryz.prog.info? 5 with
  | none => rw [hi] at h; simp at h
  | some i => rw [hi] at h; simp at h; exact ⟨i, rfl, h.1, h.2.1, h.2.2⟩

/-- Bytes as cells. -/
def brr (t : List Nat) : Array Value := (t.map fun x : Nat => Value.int .u8 (x : Int)).toArray
set_option maxRecDepth 100000 in
theorem brr_size (t : List Nat) : (brr t).size = t.length := by simp [brr]
set_option maxRecDepth 100000 in
theorem brr_get {t : List Nat} {i : Nat} (h : i < t.length) : (brr t)[i]? = some (.int .u8 (Lm.lg t i : Nat)) := by
  simp [brr, Lm.lg, h]
set_option maxRecDepth 100000 in
theorem brr_set (t : List Nat) (i x : Nat) : (brr t).setIfInBounds i (.int .u8 (x : Int)) = brr (t.set i x) := by
  simp [brr, List.map_set]
set_option maxRecDepth 100000 in
theorem brr_made (n : Nat) : madeCells (Value.int .u8 0).cells (n * 1) = brr (List.replicate n 0) := by
  apply Array.ext
  · simp [size_madeCells, brr]
  · intro i h1 h2
    simp [madeCells, brr, Value.cells, Nat.mod_one]

set_option maxRecDepth 100000 in
/-- A new row of limbs. -/
theorem By.new (w : World) (t : List Nat) (hs : Wr.Small t) : By (w.alloc (.cells (brr t) 5)) (some ⟨w.heap.size, 0, none⟩) t.length t.length t := by
  refine ⟨rfl, Nat.le_refl _, hs, fun _ => ⟨w.heap.size, 0, rfl, by simp, fun j hj => ?_⟩⟩
  rw [World.cell?_alloc_at _ _ _ _ rfl, Nat.zero_add, brr_get hj]

def byVs (l : List Nat) : List Value := l.map fun x : Nat => Value.int .u8 (x : Int)
set_option maxRecDepth 100000 in
theorem byVs_len (l : List Nat) : (byVs l).length = l.length := by simp [byVs]
set_option maxRecDepth 100000 in
theorem byVs_take (l : List Nat) (k : Nat) : byVs (l.take k) = (byVs l).take k := by simp [byVs, List.map_take]
set_option maxRecDepth 100000 in
theorem byVs_get {l : List Nat} {j : Nat} (h : j < l.length) : (byVs l)[j]? = some (.int .u8 (Lm.lg l j : Nat)) := by simp [byVs, Lm.lg, h]
set_option maxRecDepth 100000 in
theorem brr_toList (t : List Nat) : (brr t).toList = byVs t := by simp [brr, byVs]

/-- The slice 'A, n, c' is a row of the call's own, from block 'base' on, with the limbs l. -/
def Bo (w : World) (base : Nat) (A : Option Addr) (n c : Nat) (l : List Nat) : Prop :=
  Wr.Small l ∧ l.length = n ∧ w.ownsRow base 5 1 (.slice A n c) n (byVs l)

section
variable {w w' : World} {base n c : Nat} {A : Option Addr} {l : List Nat}

set_option maxRecDepth 100000 in
theorem Bo.nil (w : World) (base : Nat) : Bo w base none 0 0 [] := ⟨Wr.small_nil, rfl, World.ownsRow_nil _ _ _ _⟩

set_option maxRecDepth 100000 in
theorem Bo.cap (h : Bo w base A n c l) : n ≤ c ∧ c ≤ maxLen := by
  rcases h.2.2.2 with ⟨hv, hn⟩ | ⟨g, cap, cur, hv, _, _, h1, h2, _⟩
  · injection hv with _ _ hc
    subst hc
    exact ⟨by omega, Nat.zero_le _⟩
  · injection hv with _ _ hc
    subst hc
    exact ⟨h1, h2⟩

set_option maxRecDepth 100000 in
theorem Bo.by (h : Bo w base A n c l) : By w A n c l := by
  refine ⟨h.2.1, h.cap.1, h.1, fun hn => ?_⟩
  rcases h.2.2.2 with ⟨_, h0⟩ | ⟨g, cap, cur, hv, hb, hg, h1, h2, h3, h4⟩
  · omega
  · injection hv with hA _ hc
    subst hA hc
    refine ⟨g, 0, rfl, (Array.getElem?_eq_some_iff.1 hg).1, fun j hj => ?_⟩
    rw [Nat.zero_add, World.ownsRow.cellAt h.2.2 j (by omega), byVs_get (by rw [h.2.1]; exact hj)]

set_option maxRecDepth 100000 in
theorem Bo.below (h : Bo w base A n c l) (hb : Below w.heap.size w w') : Bo w' base A n c l := by
  refine ⟨h.1, h.2.1, h.2.2.1, ?_⟩
  rcases h.2.2.2 with h0 | ⟨g, cap, cur, hv, hbg, hg, rest⟩
  · exact .inl h0
  · exact .inr ⟨g, cap, cur, hv, hbg, (hb.block g (Array.getElem?_eq_some_iff.1 hg).1).trans hg, rest⟩

set_option maxRecDepth 100000 in
theorem Bo.mono {base' : Nat} (h : Bo w base A n c l) (hb : base' ≤ base) : Bo w base' A n c l := by
  refine ⟨h.1, h.2.1, h.2.2.1, ?_⟩
  rcases h.2.2.2 with h0 | ⟨g, cap, cur, hv, hbg, rest⟩
  · exact .inl h0
  · exact .inr ⟨g, cap, cur, hv, Nat.le_trans hb hbg, rest⟩

set_option maxRecDepth 100000 in
theorem Bo.take (h : Bo w base A n c l) (k : Nat) (hk : k ≤ n) : Bo w base A k c (l.take k) := by
  refine ⟨Wr.small_take h.1 k, by rw [List.length_take, h.2.1]; omega, by rw [byVs_len, List.length_take, h.2.1]; omega, ?_⟩
  rcases h.2.2.2 with ⟨hv, h0⟩ | ⟨g, cap, cur, hv, hbg, hg, h1, h2, h3, h4⟩
  · injection hv with hA _ hc
    subst hA hc
    have : k = 0 := by omega
    subst this
    exact .inl ⟨rfl, rfl⟩
  · injection hv with hA _ hc
    subst hA hc
    refine .inr ⟨g, _, cur, rfl, hbg, hg, by omega, h2, h3, ?_⟩
    rw [byVs_take, ← h4, List.take_take]
    congr 1
    omega

set_option maxRecDepth 100000 in
theorem Bo.new (w : World) (base : Nat) (t : List Nat) (hs : Wr.Small t) (hb : base ≤ w.heap.size) (hl : t.length ≤ maxLen) :
    Bo (w.alloc (.cells (brr t) 5)) base (some ⟨w.heap.size, 0, none⟩) t.length t.length t := by
  refine ⟨hs, rfl, ?_⟩
  have := World.ownsRow_lit (e := 5) (size := 1) w (brr t) t.length hb hl (by rw [brr_size]; omega)
  rw [brr_toList] at this
  exact this
end

def Rby (w : World) (A : Option Addr) (n c : Nat) (l : List Nat) : Prop := By w A n c l ∧ c ≤ maxLen
set_option maxRecDepth 100000 in
theorem Rby.below {w w' : World} {A : Option Addr} {n c : Nat} {l : List Nat} (h : Rby w A n c l) (hb : Below w.heap.size w w') : Rby w' A n c l := ⟨h.1.below hb, h.2⟩
set_option maxRecDepth 100000 in
/-- append(row, limbs...), the limbs nil, empty or not. -/
theorem append_by (w : World) (base : Nat) (A0 : Option Addr) (n0 c0 : Nat) (l0 : List Nat) (hown : Bo w base A0 n0 c0 l0) (A : Option Addr) (n c : Nat) (l : List Nat) (h : By w A n c l) (hn : n0 + n ≤ 10000000) (hbase : base ≤ w.heap.size) (ty : TypeId) :
    ∃ A' c' w', (Builtin.append_ #[163, 163] ty #[.slice A0 n0 c0, .slice A n c]).run Tryz.prog w = .ok (.slice A' (n0 + n) c') w' ∧ Bo w' base A' (n0 + n) c' (l0 ++ l) ∧ Below base w w' := by
  obtain ⟨i, hi, hz, hs, hb⟩ := info_byte'
  cases A with
  | none =>
    have h0 : n = 0 := by
      rcases Nat.eq_zero_or_pos n with h0 | h0
      · exact h0
      · obtain ⟨b, o, e, _⟩ := h.2.2.2 h0
        cases e
    subst h0
    have hl : l = [] := List.eq_nil_of_length_eq_zero h.1
    subst hl
    refine ⟨A0, c0, w, ?_, by simpa using hown, Below.refl _ _⟩
    rcases hown.2.2.2 with ⟨hv, h0⟩ | ⟨g, cap, cur, hv, _, _, hnc, _⟩
    · injection hv with hA _ hc
      subst hA hc h0
      simp [Builtin.append_, run_underlying und_bytes, sizeOf, typeInfo, hi, Builtin.lenOf, Builtin.firstCells]
    · injection hv with hA _ hc
      subst hA hc
      simp [Builtin.append_, run_underlying und_bytes, sizeOf, typeInfo, hi, Builtin.lenOf, Builtin.firstCells, hnc, storeCells]
  | some ad =>
    have hcells : ∀ j u, (byVs l)[j]? = some u → w.cell? (ad.add j) = some u := by
      intro j u hu
      have hj : j < l.length := by
        rcases Nat.lt_or_ge j l.length with hj | hj
        · exact hj
        · rw [List.getElem?_eq_none (by rw [byVs_len]; exact hj)] at hu; cases hu
      obtain ⟨b, o, e, _, hc⟩ := h.2.2.2 (by have := h.1; omega)
      injection e with e
      subst e
      rw [byVs_get hj] at hu
      injection hu with hu
      subst hu
      have hadd : (⟨b, o, none⟩ : Addr).add j = ⟨b, o + j, none⟩ := by unfold Addr.add; split <;> simp_all
      rw [hadd]
      exact hc j (by have := h.1; omega)
    have h1 : ∀ u ∈ byVs l, u.oneCell' = true := by
      intro u hu
      simp only [byVs, List.mem_map] at hu
      obtain ⟨x, _, rfl⟩ := hu
      rfl
    obtain ⟨v', w', hrun, ho, hg, _⟩ := run_append_own (P := Tryz.prog) w base 163 ty 5 i (.int .u8 0) 1 1 und_bytes hi hz hs hb rfl (by decide) (.slice A0 n0 c0) n0 (byVs l0) hown.2.2 ad n c (byVs l) (by rw [byVs_len, h.1]; omega) hcells h1 (by unfold maxLen; omega) (by omega) hbase
    have hlen : l0.length = n0 := hown.2.1
    have hform : ∃ A' c', v' = .slice A' (n0 + n) c' := by
      rcases ho.2 with ⟨rfl, h0⟩ | ⟨g, cap, cur, rfl, _⟩
      · exact ⟨none, 0, by rw [h0]⟩
      · exact ⟨_, _, rfl⟩
    obtain ⟨A', c', rfl⟩ := hform
    have happ : byVs l0 ++ byVs l = byVs (l0 ++ l) := by simp [byVs]
    rw [happ] at ho
    refine ⟨A', c', w', hrun, ⟨Wr.small_append.2 ⟨hown.1, h.2.2.1⟩, by rw [List.length_append, hlen, h.1], ho⟩, ?_⟩
    refine (Below.refl base w).grown hg hbase (fun k hk => ?_)
    exact (World.ownsRow.lt hown.2.2 k hk).1

end Go.Proofs.YtejmmjedognaaaaGreat
