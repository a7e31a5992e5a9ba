/-
  PACKAGE term: may, May.
-/
import Derived.Test.YtbpihjcghmmacaaTmK
import Derived.Deep.RegionHeld3
namespace Go.Proofs.Ytbpihjcghmmacaa
open Go.RowKit

mutual
/-- May a term be, but for its weight? -/
def Tm.formB : Tm → Bool
  | .mk k n g l u s ks => Tm.alikeB (.mk k n g l u s ks) (Tm.ment (.mk k n g l u s ks)) && (Tm.boundB (.mk k n g l u s ks) && Tm.formsB ks)
def Tm.formsB : List Tm → Bool
  | [] => true
  | t :: r => Tm.formB t && Tm.formsB r
end
theorem Tm.formsB_iff {ts : List Tm} : Tm.formsB ts = true ↔ ∀ t ∈ ts, t.formB = true := by
  induction ts with
  | nil => simp [Tm.formsB]
  | cons t r ih => simp [Tm.formsB, ih]
theorem Tm.formB_eq (t : Tm) : t.formB = (Tm.alikeB t t.ment && (t.boundB && Tm.formsB t.args)) := by cases t; rw [Tm.formB]; rfl
theorem Tm.formsB_no {ts : List Tm} {j : Nat} {t : Tm} (h : ts[j]? = some t) (e : t.formB = false) : Tm.formsB ts = false := by
  cases h' : Tm.formsB ts with
  | false => rfl
  | true => rw [Tm.formsB_iff.1 h' t (List.mem_of_getElem? h)] at e; cases e
theorem Tm.formsB_take {ts : List Tm} {j : Nat} {t : Tm} (h : ts[j]? = some t) (e : t.formB = true) (h' : Tm.formsB (ts.take j) = true) : Tm.formsB (ts.take (j + 1)) = true := by
  rw [Tm.formsB_iff] at h' ⊢
  rw [List.take_add_one, h]
  intro x hx
  rcases List.mem_append.1 hx with hx | hx
  · exact h' x hx
  · simp at hx; rw [hx]; exact e

/-- A variable holds a term, in its own block. -/
structure BxI (w : World) (r : TR) (t : Tm) (W : World) : Prop where
  bx : Box7 W w.heap.size r
  tv : TV W r t
  be : Below w.heap.size w W
theorem BxI.below {w : World} {r : TR} {t : Tm} {W W' : World} (h : BxI w r t W) (hb : Below W.heap.size W W') : BxI w r t W' :=
  ⟨h.bx.below hb, h.tv.bel hb, h.be.trans (hb.mono h.be.size)⟩
theorem BxI.drew {w : World} {r : TR} {t : Tm} {W : World} (h : BxI w r t W) : BxI w r t W.drew := h.below (Below.refl _ _).drew
theorem BxI.new {w : World} {r : TR} {t : Tm} (h : TV w r t) : BxI w r t (w.alloc (.cells #[.int .i64 r.k, .int .i64 r.n, .bool r.g, .slice r.A r.ln r.lc, .int .u64 r.u, .string r.s, .slice r.B r.m r.d] 28)) :=
  ⟨Box7.new w r, h.bel ((Below.refl _ _).alloc (Nat.le_refl _) _), (Below.refl _ _).alloc (Nat.le_refl _) _⟩

set_option maxRecDepth 100000 in
set_option maxHeartbeats 8000000 in
theorem mayT_any (t : Tm) : ∀ (w : World) (r : TR), TV w r t →
    Calls Try.prog 37 #[.agg #[.int .i64 r.k, .int .i64 r.n, .bool r.g, .slice r.A r.ln r.lc, .int .u64 r.u, .string r.s, .slice r.B r.m r.d]] w fun e w' => e = .returned (.bool t.formB) ∧ Below w.heap.size w w' := by
  induction t using Tm.ind with
  | h k n g l u s ks ih =>
    intro w r htv
    have IH := Lib.hid ih
    clear ih
    obtain ⟨t, ht⟩ : ∃ t, t = Tm.mk k n g l u s ks := ⟨_, rfl⟩
    have hks : t.args = ks := by rw [ht]; rfl
    rw [← hks] at IH
    rw [← ht] at htv ⊢
    clear hks ht
    obtain ⟨R, hR⟩ : ∃ R, R = t.formB := ⟨_, rfl⟩
    rw [← hR]
    rw [Tm.formB_eq] at hR
    have HR := Lib.hid hR
    clear hR
    have hts := htv.args
    have hml : r.m ≤ maxLen := Nat.le_trans hts.md hts.dd
    have hml' : (r.m : Int) ≤ 9223372036854775807 := by unfold maxLen at hml; omega
    have I := BxI.new htv
    clear htv hts
    go_enter Try.func37, Try.ntmps37
    go_wp2_with fail
    generalize w.alloc (.cells #[.int .i64 r.k, .int .i64 r.n, .bool r.g, .slice r.A r.ln r.lc, .int .u64 r.u, .string r.s, .slice r.B r.m r.d] 28) = W at *
    have y := I.bx.at
    have y0 := y.c0
    have y1 := y.c1
    have y2 := y.c2
    have y3 := y.c3
    have y4 := y.c4
    have y5 := y.c5
    have y6 := y.c6
    have I3 := I.drew
    clear y I
    cases ha : Tm.alikeB t t.ment with
    | false =>
      have hfin := Lib.hid (show R = false by rw [HR.out, ha]; rfl)
      clear HR
      go_region_with (first
          | (go_at_call 56; have I' := I3; clear I3; refine (ment_any _ r).mono ?_; rintro e v ⟨rfl, hv⟩; have I3 := I'.below hv; clear I' hv y0 y1 y2 y3 y4 y5 y6; have y0 := I3.bx.at.c0; have y1 := I3.bx.at.c1; have y2 := I3.bx.at.c2; have y3 := I3.bx.at.c3; have y4 := I3.bx.at.c4; have y5 := I3.bx.at.c5; have y6 := I3.bx.at.c6)
          | (go_at_call 55; have I' := I3; clear I3; refine (alike_any _ r t (by exact I'.tv) r.ment t.ment (by exact I'.tv.ment)).mono ?_; rw [ha]; rintro e v ⟨rfl, hv⟩; have I3 := I'.below hv; clear I' hv y0 y1 y2 y3 y4 y5 y6; have y0 := I3.bx.at.c0; have y1 := I3.bx.at.c1; have y2 := I3.bx.at.c2; have y3 := I3.bx.at.c3; have y4 := I3.bx.at.c4; have y5 := I3.bx.at.c5; have y6 := I3.bx.at.c6))
      all_goals
        go_wp2
        go_ret
        exact ⟨by rw [hfin.out]; rfl, I3.be⟩
    | true =>
      have hcase := Lib.hid (show R = (t.boundB && Tm.formsB t.args) by rw [HR.out, ha]; rfl)
      clear HR
      go_region_held3 (fun w' => w'.cell? ⟨w.heap.size, 0, none⟩ = some (.int .i64 r.k) ∧ w'.cell? ⟨w.heap.size, 1, none⟩ = some (.int .i64 r.n) ∧ w'.cell? ⟨w.heap.size, 2, none⟩ = some (.bool r.g) ∧ w'.cell? ⟨w.heap.size, 3, none⟩ = some (.slice r.A r.ln r.lc) ∧ w'.cell? ⟨w.heap.size, 4, none⟩ = some (.int .u64 r.u) ∧ w'.cell? ⟨w.heap.size, 5, none⟩ = some (.string r.s) ∧ w'.cell? ⟨w.heap.size, 6, none⟩ = some (.slice r.B r.m r.d))
        (first | exact ⟨y0, y1, y2, y3, y4, y5, y6⟩ | exact ⟨I3.bx.at.c0, I3.bx.at.c1, I3.bx.at.c2, I3.bx.at.c3, I3.bx.at.c4, I3.bx.at.c5, I3.bx.at.c6⟩)
        (first
          | (go_at_call 56; have I' := I3; clear I3; refine (ment_any _ r).mono ?_; rintro e v ⟨rfl, hv⟩; have I3 := I'.below hv; clear I' hv)
          | (go_at_call 55; have I' := I3; clear I3; refine (alike_any _ r t (by exact I'.tv) r.ment t.ment (by exact I'.tv.ment)).mono ?_; rw [ha]; rintro e v ⟨rfl, hv⟩; have I3 := I'.below hv; clear I' hv)
          | (go_at_call 57; have I' := I3; clear I3; refine (tbounded_any _ r t (by exact I'.tv)).mono ?_; rintro e v ⟨rfl, hv⟩; have I3 := I'.below hv; clear I' hv))
      clear y0 y1 y2 y3 y4 y5 y6
      generalize t.boundB = bd at hcase ⊢
      cases bd with
      | false =>
        have hfin := Lib.hid (show R = false by rw [hcase.out]; rfl)
        go_wp2
        go_ret
        exact ⟨by rw [hfin.out]; rfl, I3.be⟩
      | true =>
        have hfin := Lib.hid (show R = Tm.formsB t.args by rw [hcase.out]; rfl)
        clear hcase
        have z6 := I3.bx.at.c6
        simp only [Bool.not_true]
        go_wp2_with fail
        clear z6
        go_loopw [17] (fun i w' => ∃ j : Nat, j ≤ r.m ∧ i = .int .i64 (j : Int) ∧ Hid (Tm.formsB (t.args.take j) = true) ∧ BxI w r t w') (fun i _ => r.m - (intOf i).toNat)
        case atStart => exact ⟨0, Nat.zero_le _, rfl, Lib.hid rfl, I3⟩
        case round =>
          obtain ⟨j, hj, rfl, hz, J⟩ := hrel
          clear I3
          by_cases hjm : j < r.m
          · have hd1 : decide ((j : Int) < (r.m : Int)) = true := by rw [decide_eq_true_iff]; omega
            obtain ⟨b, o, r', t', e, hlt, h7, het, htv'⟩ := J.tv.args.get j hjm
            have hmem := List.mem_of_getElem? het
            have x6 : wr.cell? ⟨w.heap.size, 6, none⟩ = some (.slice r.B r.m r.d) := J.bx.at.c6
            rw [e] at x6
            clear e
            have d0 := h7.c0
            have d1 := h7.c1
            have d2 := h7.c2
            have d3 := h7.c3
            have d4 := h7.c4
            have d5 := h7.c5
            have d6 := h7.c6
            have HJ := Lib.hid J
            clear J
            go_wp2_with fail
            refine (IH.out t' hmem wr r' htv').mono ?_
            rintro e w2 ⟨rfl, hb2⟩
            have J2 := Lib.hid (HJ.out.below hb2)
            cases hf : t'.formB with
            | false =>
              have hfi := Lib.hid (show R = false by rw [hfin.out]; exact Tm.formsB_no het hf)
              go_wp2
              go_ret
              exact ⟨by rw [hfi.out]; rfl, J2.out.be⟩
            | true =>
              have hst := Lib.hid (Tm.formsB_take het hf hz.out)
              go_wp2_with fail
              go_roundw
              case rel => exact ⟨j + 1, by omega, by go_num, hst, J2.out⟩
              case measure => simp [intOf]; omega
          · have hd1 : decide ((j : Int) < (r.m : Int)) = false := by rw [decide_eq_false_iff_not]; omega
            have hfi := Lib.hid (show R = true by
              rw [hfin.out]
              have := hz.out
              rw [List.take_of_length_le (by rw [J.tv.len]; omega)] at this
              exact this)
            go_wp2
            go_ret
            exact ⟨by rw [hfi.out]; rfl, J.be⟩

/-- May a term be? -/
def Tm.mayB (t : Tm) : Bool := decide (t.cap ≤ 300) && t.formB

set_option maxHeartbeats 2000000 in
theorem mayTerm_any (w : World) (r : TR) (t : Tm) (h : TV w r t) (ho : t.Ok) :
    Calls Try.prog 13 #[.agg #[.int .i64 r.k, .int .i64 r.n, .bool r.g, .slice r.A r.ln r.lc, .int .u64 r.u, .string r.s, .slice r.B r.m r.d]] w fun e w' => e = .returned (.bool t.mayB) ∧ Below w.heap.size w w' := by
  obtain ⟨R, hR⟩ : ∃ R, R = t.mayB := ⟨_, rfl⟩
  rw [← hR]
  have HR := Lib.hid hR
  clear hR
  have I := BxI.new h
  go_enter Try.func13, Try.ntmps13
  go_wp2_with fail
  generalize w.alloc (.cells #[.int .i64 r.k, .int .i64 r.n, .bool r.g, .slice r.A r.ln r.lc, .int .u64 r.u, .string r.s, .slice r.B r.m r.d] 28) = W at *
  refine (weight_any W r t I.tv ho).mono ?_
  rintro e w1 ⟨rfl, hb1⟩
  have I1 := I.below hb1
  clear I
  have y := I1.bx.at
  have y0 := y.c0
  have y1 := y.c1
  have y2 := y.c2
  have y3 := y.c3
  have y4 := y.c4
  have y5 := y.c5
  have y6 := y.c6
  by_cases hc : t.cap ≤ 300
  · have hfin := Lib.hid (show R = t.formB by rw [HR.out, Tm.mayB, decide_eq_true hc]; rfl)
    have hd : decide ((t.cap : Int) ≤ 300) = true := by rw [decide_eq_true_iff]; omega
    clear HR hc y
    go_wp2_with fail
    refine (mayT_any t w1 r I1.tv).mono ?_
    rintro e w2 ⟨rfl, hb2⟩
    have I2 := I1.below hb2
    generalize t.formB = f at hfin ⊢
    go_wp2
    go_ret
    exact ⟨by rw [hfin.out]; rfl, I2.be⟩
  · have hfin := Lib.hid (show R = false by rw [HR.out, Tm.mayB, decide_eq_false hc]; rfl)
    have hd : decide ((t.cap : Int) ≤ 300) = false := by rw [decide_eq_false_iff_not]; omega
    clear HR hc y
    go_wp2
    go_ret
    exact ⟨by rw [hfin.out]; rfl, I1.be⟩
end Go.Proofs.Ytbpihjcghmmacaa
