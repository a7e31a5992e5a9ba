/-
  PACKAGE look: Why.
  WHAT EVERY PROGRAM ANSWERS THAT IS ONE: the pair of beehivelaw12.
  PACKAGE look: Handles, where no root is.
  RIGHT DUMPS with other roots; what is reached of fewer roots.
  A NUMBER BELOW A BOUND: beehivelaw0.Low (without limbs).
-/
import Derived.Test.YtejmmjedognaaaaGreatL41
import Derived.Test.YtejmmjedognaaaaGreatL30
import Derived.Test.YtejmmjedognaaaaGreatL36
namespace Go.Proofs.YtejmmjedognaaaaGreat
open Go.RowKit Go.Shelf
open St

open Classical in
/-- The name of the first condition that does not hold. -/
noncomputable def whyO (gs : List Frg) (S : List Slt) (d : Dmp) : ByteArray :=
  if ¬ (Sepa gs ∧ msB d = true) then (⟨#[114, 101, 103, 105, 111, 110, 115]⟩ : ByteArray) else if ¬ RtsOk gs S d.roots then ⟨#[114, 111, 111, 116, 115]⟩ else if clR d.o = false then ⟨#[111, 108, 100]⟩ else if ¬ HdOk gs S d.roots d.hs then ⟨#[104, 97, 110, 100, 108, 101, 115]⟩ else ⟨#[]⟩
set_option maxRecDepth 100000 in
theorem why_reg {gs : List Frg} {S : List Slt} {d : Dmp} (h : ¬ (Sepa gs ∧ msB d = true)) : whyO gs S d = ⟨#[114, 101, 103, 105, 111, 110, 115]⟩ := by unfold whyO; rw [if_pos h]
set_option maxRecDepth 100000 in
theorem why_roo {gs : List Frg} {S : List Slt} {d : Dmp} (h : Sepa gs ∧ msB d = true) (h2 : ¬ RtsOk gs S d.roots) : whyO gs S d = ⟨#[114, 111, 111, 116, 115]⟩ := by unfold whyO; rw [if_neg (fun e => e h), if_pos h2]
set_option maxRecDepth 100000 in
theorem why_old {gs : List Frg} {S : List Slt} {d : Dmp} (h : Sepa gs ∧ msB d = true) (h2 : RtsOk gs S d.roots) (h3 : clR d.o = false) : whyO gs S d = ⟨#[111, 108, 100]⟩ := by unfold whyO; rw [if_neg (fun e => e h), if_neg (fun e => e h2), if_pos h3]
set_option maxRecDepth 100000 in
theorem why_han {gs : List Frg} {S : List Slt} {d : Dmp} (h : Sepa gs ∧ msB d = true) (h2 : RtsOk gs S d.roots) (h3 : clR d.o = true) (h4 : ¬ HdOk gs S d.roots d.hs) : whyO gs S d = ⟨#[104, 97, 110, 100, 108, 101, 115]⟩ := by unfold whyO; rw [if_neg (fun e => e h), if_neg (fun e => e h2), if_neg (by rw [h3]; decide), if_pos h4]
set_option maxRecDepth 100000 in
theorem why_no {gs : List Frg} {S : List Slt} {d : Dmp} (h : Sepa gs ∧ msB d = true) (h2 : RtsOk gs S d.roots) (h3 : clR d.o = true) (h4 : HdOk gs S d.roots d.hs) : whyO gs S d = ⟨#[]⟩ := by unfold whyO; rw [if_neg (fun e => e h), if_neg (fun e => e h2), if_neg (by rw [h3]; decide), if_neg (fun e => e h4)]
set_option maxRecDepth 100000 in
set_option maxRecDepth 100000 in
set_option maxHeartbeats 8000000 in
theorem why_any {w : World} {r : DR} {d : Dmp} (h : DV w r d) (hm : r.fm ≤ 6) (hgs0 : ∀ f ∈ d.y :: d.o :: d.fs, f.ws.length ≤ 1000) (hrm : r.rm ≤ 1000) (hhm : r.hm ≤ 1000) {SA : Option Addr} {sm sc : Nat} {S : List Slt} (hS : SLs w SA sm sc S) (hsm : sm ≤ 1000) :
    Calls Tryz.prog 12 #[.agg #[.int .i64 r.y.at_, .slice r.y.A r.y.n r.y.c, .int .i64 r.o.at_, .slice r.o.A r.o.n r.o.c, .int .i64 r.size, .int .i64 r.mark, .slice r.F r.fm r.fc, .slice r.R r.rm r.rc, .slice r.H r.hm r.hc], .slice SA sm sc] w fun e w' => e = .returned (.string (whyO (d.y :: d.o :: d.fs) S d)) ∧ Below w.heap.size w w' := by
  obtain ⟨wa, hwa⟩ : ∃ wa, wa = w.alloc (.cells #[.int .i64 r.y.at_, .slice r.y.A r.y.n r.y.c, .int .i64 r.o.at_, .slice r.o.A r.o.n r.o.c, .int .i64 r.size, .int .i64 r.mark, .slice r.F r.fm r.fc, .slice r.R r.rm r.rc, .slice r.H r.hm r.hc] 28) := ⟨_, rfl⟩
  have hba : Below w.heap.size w wa := by rw [hwa]; exact (Below.refl _ w).alloc (Nat.le_refl _) _
  have bx : Bx wa w.heap.size r := ⟨by rw [hwa]; exact heap_alloc_new w _⟩
  obtain ⟨gs, hgs⟩ : ∃ gs, gs = d.y :: d.o :: d.fs := ⟨_, rfl⟩
  have hgl : gs.length ≤ 8 := by
    have h1 := h.fs.lef
    rw [hgs]
    simp only [List.length_cons]
    omega
  have hon : r.o.n ≤ 1000 := by rw [← h.o.ws.len]; exact hgs0 d.o (by simp)
  have HD : Hid (∀ w', Below wa.heap.size wa w' → DV w' r d ∧ SLs w' SA sm sc S ∧ Bx w' w.heap.size r) := Lib.hid (fun w' hb => ⟨(h.below hba).below hb, (hS.below hba).below hb, bx.below hb bx.lt⟩)
  have HE : Hid (∀ w', Below wa.heap.size wa w' → Below w.heap.size w w') := Lib.hid (fun w' hb => hba.trans (hb.mono hba.size))
  have HSep := Lib.hid (sepq_any (h.below hba) hm hgs0)
  rw [← hgs] at HSep hgs0 ⊢
  have hk0 : Hid (Below wa.heap.size wa wa) := Lib.hid (Below.refl _ _)
  have q0 := bx.c0; have q1 := bx.c1; have q2 := bx.c2; have q3 := bx.c3; have q4 := bx.c4; have q5 := bx.c5; have q6 := bx.c6; have q7 := bx.c7; have q8 := bx.c8
  clear bx h hS hba hgs
  cases hms : msB d
  · go_enter Tryz.func12, Tryz.ntmps12
    go_upto_region 1 with fail
    rw [← hwa]
    clear hwa
    go_wp2_with (first | (go_at_call 29; (with_reducible refine (HSep.out).mono ?_); rintro e w1 ⟨gs1, A1, n1, c1, ok, rfl, hsg, hok, hM1, hb1⟩; have hk1 := Lib.hid (hk0.out.trans (hb1.mono hk0.out.size)); have hj1 := Lib.hid (Below.refl w1.heap.size w1); clear hb1; clear q0 q1 q2 q3 q4 q5 q6 q7 q8; have bx := (HD.out _ hk1.out).2.2; have q0 := bx.c0; have q1 := bx.c1; have q2 := bx.c2; have q3 := bx.c3; have q4 := bx.c4; have q5 := bx.c5; have q6 := bx.c6; have q7 := bx.c7; have q8 := bx.c8; clear bx; replace hM1 := Lib.hid hM1; replace hok := Lib.hid hok; replace hsg := Lib.hid hsg; (cases ok)) | (go_at_call 30; (with_reducible refine (measured_any (HD.out _ hk1.out).1).mono ?_); rintro e w2 ⟨rfl, hb2⟩; have hk2 := Lib.hid (hk1.out.trans (hb2.mono hk1.out.size)); have hj2 := Lib.hid (hj1.out.trans (hb2.mono hj1.out.size)); clear hb2; clear q0 q1 q2 q3 q4 q5 q6 q7 q8; have bx := (HD.out _ hk2.out).2.2; have q0 := bx.c0; have q1 := bx.c1; have q2 := bx.c2; have q3 := bx.c3; have q4 := bx.c4; have q5 := bx.c5; have q6 := bx.c6; have q7 := bx.c7; have q8 := bx.c8; clear bx; rw [hms]))
    all_goals
      go_ret
      exact ⟨by rw [why_reg (fun e => by rw [hms] at e; exact absurd e.2 (by decide))]; rfl, HE.out _ (by first | exact hk1.out | exact hk2.out)⟩
  · cases hcl : clR d.o
    · go_enter Tryz.func12, Tryz.ntmps12
      go_upto_region 1 with fail
      rw [← hwa]
      clear hwa
      go_wp2_with (first | (go_at_call 29; (with_reducible refine (HSep.out).mono ?_); rintro e w1 ⟨gs1, A1, n1, c1, ok, rfl, hsg, hok, hM1, hb1⟩; have hk1 := Lib.hid (hk0.out.trans (hb1.mono hk0.out.size)); have hj1 := Lib.hid (Below.refl w1.heap.size w1); clear hb1; clear q0 q1 q2 q3 q4 q5 q6 q7 q8; have bx := (HD.out _ hk1.out).2.2; have q0 := bx.c0; have q1 := bx.c1; have q2 := bx.c2; have q3 := bx.c3; have q4 := bx.c4; have q5 := bx.c5; have q6 := bx.c6; have q7 := bx.c7; have q8 := bx.c8; clear bx; replace hM1 := Lib.hid hM1; replace hok := Lib.hid hok; replace hsg := Lib.hid hsg; (cases ok)) | (go_at_call 30; (with_reducible refine (measured_any (HD.out _ hk1.out).1).mono ?_); rintro e w2 ⟨rfl, hb2⟩; have hk2 := Lib.hid (hk1.out.trans (hb2.mono hk1.out.size)); have hj2 := Lib.hid (hj1.out.trans (hb2.mono hj1.out.size)); clear hb2; clear q0 q1 q2 q3 q4 q5 q6 q7 q8; have bx := (HD.out _ hk2.out).2.2; have q0 := bx.c0; have q1 := bx.c1; have q2 := bx.c2; have q3 := bx.c3; have q4 := bx.c4; have q5 := bx.c5; have q6 := bx.c6; have q7 := bx.c7; have q8 := bx.c8; clear bx; rw [hms]) | (obtain ⟨HGE, HSP⟩ : gs1 = gs ∧ Hid (Sepa gs) := (by (rcases hsg.out with ⟨h1, e⟩ | ⟨h1, _⟩; exact ⟨e, Lib.hid h1⟩; exact absurd (hok.out.1 (by first | exact trivial | rfl)) h1)); subst HGE; go_at_call 31; (with_reducible refine (readable_any ⟨hM1.out.below hj2.out, (HD.out _ hk2.out).2.1, hgs0, hsm⟩ (HD.out _ hk2.out).1.roots hrm).mono ?_); rintro e w3 ⟨b3, rfl, hrt, hb3⟩; have hk3 := Lib.hid (hk2.out.trans (hb3.mono hk2.out.size)); have hj3 := Lib.hid (hj2.out.trans (hb3.mono hj2.out.size)); clear hb3; clear q0 q1 q2 q3 q4 q5 q6 q7 q8; have bx := (HD.out _ hk3.out).2.2; have q0 := bx.c0; have q1 := bx.c1; have q2 := bx.c2; have q3 := bx.c3; have q4 := bx.c4; have q5 := bx.c5; have q6 := bx.c6; have q7 := bx.c7; have q8 := bx.c8; clear bx; replace hrt := Lib.hid hrt; (cases b3)) | (go_at_call 32; (with_reducible refine (closed_any (HD.out _ hk3.out).1.o hon).mono ?_); rintro e w4 ⟨rfl, hb4⟩; have hk4 := Lib.hid (hk3.out.trans (hb4.mono hk3.out.size)); have hj4 := Lib.hid (hj3.out.trans (hb4.mono hj3.out.size)); clear hb4; clear q0 q1 q2 q3 q4 q5 q6 q7 q8; have bx := (HD.out _ hk4.out).2.2; have q0 := bx.c0; have q1 := bx.c1; have q2 := bx.c2; have q3 := bx.c3; have q4 := bx.c4; have q5 := bx.c5; have q6 := bx.c6; have q7 := bx.c7; have q8 := bx.c8; clear bx; rw [hcl]))
      · go_ret
        exact ⟨by rw [why_reg (fun e => absurd (hok.out.2 e.1) (by decide))]; rfl, HE.out _ hk1.out⟩
      · go_ret
        exact ⟨by rw [why_roo ⟨HSP.out, hms⟩ (fun e => absurd (hrt.out.2 e) (by decide))]; rfl, HE.out _ hk3.out⟩
      · go_ret
        exact ⟨by rw [why_old ⟨HSP.out, hms⟩ (hrt.out.1 (by first | exact trivial | rfl)) hcl]; rfl, HE.out _ hk4.out⟩
    · go_enter Tryz.func12, Tryz.ntmps12
      go_upto_region 1 with fail
      rw [← hwa]
      clear hwa
      go_wp2_with (first | (go_at_call 29; (with_reducible refine (HSep.out).mono ?_); rintro e w1 ⟨gs1, A1, n1, c1, ok, rfl, hsg, hok, hM1, hb1⟩; have hk1 := Lib.hid (hk0.out.trans (hb1.mono hk0.out.size)); have hj1 := Lib.hid (Below.refl w1.heap.size w1); clear hb1; clear q0 q1 q2 q3 q4 q5 q6 q7 q8; have bx := (HD.out _ hk1.out).2.2; have q0 := bx.c0; have q1 := bx.c1; have q2 := bx.c2; have q3 := bx.c3; have q4 := bx.c4; have q5 := bx.c5; have q6 := bx.c6; have q7 := bx.c7; have q8 := bx.c8; clear bx; replace hM1 := Lib.hid hM1; replace hok := Lib.hid hok; replace hsg := Lib.hid hsg; (cases ok)) | (go_at_call 30; (with_reducible refine (measured_any (HD.out _ hk1.out).1).mono ?_); rintro e w2 ⟨rfl, hb2⟩; have hk2 := Lib.hid (hk1.out.trans (hb2.mono hk1.out.size)); have hj2 := Lib.hid (hj1.out.trans (hb2.mono hj1.out.size)); clear hb2; clear q0 q1 q2 q3 q4 q5 q6 q7 q8; have bx := (HD.out _ hk2.out).2.2; have q0 := bx.c0; have q1 := bx.c1; have q2 := bx.c2; have q3 := bx.c3; have q4 := bx.c4; have q5 := bx.c5; have q6 := bx.c6; have q7 := bx.c7; have q8 := bx.c8; clear bx; rw [hms]) | (obtain ⟨HGE, HSP⟩ : gs1 = gs ∧ Hid (Sepa gs) := (by (rcases hsg.out with ⟨h1, e⟩ | ⟨h1, _⟩; exact ⟨e, Lib.hid h1⟩; exact absurd (hok.out.1 (by first | exact trivial | rfl)) h1)); subst HGE; go_at_call 31; (with_reducible refine (readable_any ⟨hM1.out.below hj2.out, (HD.out _ hk2.out).2.1, hgs0, hsm⟩ (HD.out _ hk2.out).1.roots hrm).mono ?_); rintro e w3 ⟨b3, rfl, hrt, hb3⟩; have hk3 := Lib.hid (hk2.out.trans (hb3.mono hk2.out.size)); have hj3 := Lib.hid (hj2.out.trans (hb3.mono hj2.out.size)); clear hb3; clear q0 q1 q2 q3 q4 q5 q6 q7 q8; have bx := (HD.out _ hk3.out).2.2; have q0 := bx.c0; have q1 := bx.c1; have q2 := bx.c2; have q3 := bx.c3; have q4 := bx.c4; have q5 := bx.c5; have q6 := bx.c6; have q7 := bx.c7; have q8 := bx.c8; clear bx; replace hrt := Lib.hid hrt; (cases b3)) | (go_at_call 32; (with_reducible refine (closed_any (HD.out _ hk3.out).1.o hon).mono ?_); rintro e w4 ⟨rfl, hb4⟩; have hk4 := Lib.hid (hk3.out.trans (hb4.mono hk3.out.size)); have hj4 := Lib.hid (hj3.out.trans (hb4.mono hj3.out.size)); clear hb4; clear q0 q1 q2 q3 q4 q5 q6 q7 q8; have bx := (HD.out _ hk4.out).2.2; have q0 := bx.c0; have q1 := bx.c1; have q2 := bx.c2; have q3 := bx.c3; have q4 := bx.c4; have q5 := bx.c5; have q6 := bx.c6; have q7 := bx.c7; have q8 := bx.c8; clear bx; rw [hcl]) | (go_at_call 33; (with_reducible refine (handled_any (hM1.out.below hj4.out) hgs0 hgl (HD.out _ hk4.out).2.1 hsm (HD.out _ hk4.out).1 hrm hhm).mono ?_); rintro e w5 ⟨b5, rfl, hdl, hb5⟩; have hk5 := Lib.hid (hk4.out.trans (hb5.mono hk4.out.size)); have hj5 := Lib.hid (hj4.out.trans (hb5.mono hj4.out.size)); clear hb5; clear q0 q1 q2 q3 q4 q5 q6 q7 q8; have bx := (HD.out _ hk5.out).2.2; have q0 := bx.c0; have q1 := bx.c1; have q2 := bx.c2; have q3 := bx.c3; have q4 := bx.c4; have q5 := bx.c5; have q6 := bx.c6; have q7 := bx.c7; have q8 := bx.c8; clear bx; replace hdl := Lib.hid hdl; (cases b5)))
      · go_ret
        exact ⟨by rw [why_reg (fun e => absurd (hok.out.2 e.1) (by decide))]; rfl, HE.out _ hk1.out⟩
      · go_ret
        exact ⟨by rw [why_roo ⟨HSP.out, hms⟩ (fun e => absurd (hrt.out.2 e) (by decide))]; rfl, HE.out _ hk3.out⟩
      · go_ret
        exact ⟨by rw [why_han ⟨HSP.out, hms⟩ (hrt.out.1 (by first | exact trivial | rfl)) hcl (fun e => absurd (hdl.out.2 e) (by decide))]; rfl, HE.out _ hk5.out⟩
      · go_ret
        exact ⟨by rw [why_no ⟨HSP.out, hms⟩ (hrt.out.1 (by first | exact trivial | rfl)) hcl (hdl.out.1 (by first | exact trivial | rfl))]; rfl, HE.out _ hk5.out⟩
end Go.Proofs.YtejmmjedognaaaaGreat

namespace Go.Proofs.YtejmmjedognaaaaGreat
open Go.RowKit Go.Shelf
open St

def pd : Dmp := ⟨⟨5, [8, 16]⟩, ⟨0, []⟩, 2, 0, [], [45], []⟩
def pT : Tm := ndT (-1) [nuT 1 1, nuT 1 2]
set_option maxRecDepth 100000 in
theorem pd_rd : Rd (pd.y :: pd.o :: pd.fs) [] 45 pT := ⟨2, by rfl⟩
set_option maxRecDepth 100000 in
theorem pT_wt : pT.wt ≤ 300 := by decide
set_option maxRecDepth 100000 in
theorem pd_o45 : objO (pd.y :: pd.o :: pd.fs) 45 = some (-1, [8, 16]) := by decide
set_option maxRecDepth 100000 in
theorem pd_reach {x : Int} : Rch (pd.y :: pd.o :: pd.fs) [45] x ↔ x = 45 := by
  constructor
  · intro h
    induction h with
    | root h ho => simpa using h
    | step hy hk h ho ih =>
      subst ih
      rw [pd_o45] at hk
      injection hk with hk
      injection hk with h1 h2
      subst h1 h2
      have h8 : ∀ y ∈ ldsO (-1) [8, 16], (objO (pd.y :: pd.o :: pd.fs) y).isSome = false := by decide
      rw [h8 _ h] at ho
      cases ho
  · rintro rfl
    exact .root (by simp) (by rw [pd_o45]; rfl)
set_option maxRecDepth 100000 in
theorem pd_sepa : Sepa (pd.y :: pd.o :: pd.fs) := ⟨by intro f hf; simp [neF, pd] at hf; subst hf; unfold InR; decide, by simp [neF, pd]⟩
set_option maxRecDepth 100000 in
theorem pd_why : whyO (pd.y :: pd.o :: pd.fs) [] pd = ⟨#[]⟩ := by
  refine why_no ⟨pd_sepa, by decide⟩ (fun x hx => ?_) (by decide) ⟨(fun a ha => absurd ha (by simp [pd])), (by simp [pd]), (fun x ws hx ho => ?_)⟩
  · rw [show x = 45 by simpa [pd] using hx]
    exact ⟨pT, pd_rd, pT_wt⟩
  · rw [pd_reach.1 hx, pd_o45] at ho
    injection ho with ho
    injection ho with h1 _
    cases h1
def bd : Dmp := { pd with mark := 3 }
set_option maxRecDepth 100000 in
theorem bd_why : whyO (bd.y :: bd.o :: bd.fs) [] bd = ⟨#[114, 101, 103, 105, 111, 110, 115]⟩ := why_reg (fun h => absurd h.2 (by decide))
set_option maxRecDepth 100000 in
theorem szO_one {gs : List Frg} {roots : List Int} {l : List OR} {x k : Int} {ws : List Int} (h : Rchd gs roots l) (hx : ∀ y, Rch gs roots y ↔ y = x) (ho : objO gs x = some (k, ws)) : szO l = if k = -1 then (ws.length : Int) else 1 + ws.length := by
  have hm : ∀ y, y ∈ l.map (·.x) ↔ y = x := fun y => (h.2 y).trans (hx y)
  rcases l with _ | ⟨p, l⟩
  · exact absurd ((hm x).2 rfl) (by simp)
  · rcases l with _ | ⟨q, l⟩
    · have e : p.x = x := (hm p.x).1 (by simp)
      obtain ⟨_, h1, h2⟩ := h.1.2 p (by simp)
      rw [e, ho] at h1
      injection h1 with h1
      injection h1 with h3 h4
      simp only [szO, szI, List.map_cons, List.map_nil, List.sum_cons, List.sum_nil]
      rw [h2, ← h3, ← h4, Int.add_zero]
    · exfalso
      have e1 : p.x = x := (hm p.x).1 (by simp)
      have e2 : q.x = x := (hm q.x).1 (by simp)
      have := h.1.1
      simp [e1, e2] at this
set_option maxRecDepth 100000 in
theorem pd_live {l : List OR} (h : Rchd (pd.y :: pd.o :: pd.fs) [45] l) : szO l = 2 := (szO_one h (fun y => pd_reach) pd_o45).trans (by decide)

set_option maxRecDepth 100000 in
theorem zs_row {w : World} {b : Nat} {zs : List Int} {cs : Array Value} {t : TypeId} {f : Nat × Nat} {n : Nat} (hb : w.heap[b]? = some (.cells cs t f)) (hc : ∀ j, j < n → cs[j]? = some (.int .u64 (zs.getD j 0))) (hn : zs.length = n) (hm : n ≤ maxLen) (hwf : ∀ x ∈ zs, (Lit.int .u64 x).wf = true) : Zs .u64 w (some ⟨b, 0, none⟩) n n zs :=
  ⟨hn, Nat.le_refl _, hm, hwf, fun _ => ⟨b, 0, rfl, (Array.getElem?_eq_some_iff.1 hb).1, fun j hj => by rw [Nat.zero_add]; exact (cell_of_row w b j _ _ _ hb).trans (hc j hj)⟩⟩
/-- The pair in memory. -/
def pR (S : Nat) (m : Int) : DR := ⟨⟨5, some ⟨S + 1, 0, none⟩, 2, 2⟩, ⟨0, none, 0, 0⟩, 2, m, none, 0, 0, some ⟨S + 2, 0, none⟩, 1, 1, none, 0, 0, []⟩
set_option maxRecDepth 100000 in
theorem FVs.nil (w : World) : FVs w none 0 0 [] [] := ⟨rfl, rfl, by omega, by decide, fun h => absurd h (by omega), fun i hi => absurd hi (by omega)⟩
set_option maxRecDepth 100000 in
theorem pd_dv {w : World} {S : Nat} (h1 : w.heap[S + 1]? = some (.cells #[.int .u64 8, .int .u64 16] 30 (0, 0))) (h2 : w.heap[S + 2]? = some (.cells #[.int .u64 45] 30 (0, 0))) : DV w (pR S 0) pd := by
  refine ⟨⟨rfl, by decide, ?_⟩, ⟨rfl, by decide, Zs.nil _ _⟩, rfl, rfl, by decide, by decide, FVs.nil w, ?_, Zs.nil _ _⟩
  · exact zs_row (n := 2) h1 (fun j hj => match j, hj with | 0, _ => rfl | 1, _ => rfl) rfl (by decide) (by decide)
  · exact zs_row (n := 1) h2 (fun j hj => match j, hj with | 0, _ => rfl) rfl (by decide) (by decide)
set_option maxRecDepth 100000 in
theorem bd_dv {w : World} {S : Nat} (h : DV w (pR S 0) pd) : DV w (pR S 3) bd := ⟨h.y, h.o, h.size, rfl, h.wfs, by decide, h.fs, h.roots, h.hs⟩
set_option maxRecDepth 100000 in
set_option maxRecDepth 100000 in
set_option maxHeartbeats 4000000 in
theorem pair_any (w : World) : Calls Tryz.prog 25 #[] w fun e w' => ∃ S, e = .returned (.agg #[.int .i64 5, .slice (some ⟨S + 1, 0, none⟩) 2 2, .int .i64 0, .slice none 0 0, .int .i64 2, .int .i64 0, .slice none 0 0, .slice (some ⟨S + 2, 0, none⟩) 1 1, .slice none 0 0]) ∧ DV w' (pR S 0) pd ∧ Below w.heap.size w w' := by
  go_enter Tryz.func25, Tryz.ntmps25
  go_wp2
  generalize hS : w.heap.size = S at *
  obtain ⟨W, hW⟩ : ∃ W, W = ((w.alloc (.cells #[.int .i64 5, .slice (some ⟨S + 1, 0, none⟩) 2 2, .int .i64 0, .slice none 0 0, .int .i64 2, .int .i64 0, .slice none 0 0, .slice (some ⟨S + 1 + 1, 0, none⟩) 1 1, .slice none 0 0] 28)).alloc (.cells #[.int .u64 8, .int .u64 16] 30)).alloc (.cells #[.int .u64 45] 30) := ⟨_, rfl⟩
  rw [← hW]
  have hb : Below S w W := by rw [hW, ← hS]; exact (((Below.refl _ w).alloc (Nat.le_refl _) _).alloc (by simp) _).alloc (by simp; omega) _
  have h0 : Bx W S (pR S 0) := ⟨by
    rw [hW, ← hS, Below.heap_alloc _ _ _ (by simp; omega), Below.heap_alloc _ _ _ (by simp)]
    exact heap_alloc_new w _⟩
  have h1 : W.heap[S + 1]? = some (.cells #[.int .u64 8, .int .u64 16] 30 (0, 0)) := by
    rw [hW, ← hS, Below.heap_alloc _ _ _ (by simp)]
    have := heap_alloc_new (w.alloc (.cells #[.int .i64 5, .slice (some ⟨w.heap.size + 1, 0, none⟩) 2 2, .int .i64 0, .slice none 0 0, .int .i64 2, .int .i64 0, .slice none 0 0, .slice (some ⟨w.heap.size + 1 + 1, 0, none⟩) 1 1, .slice none 0 0] 28)) (.cells #[.int .u64 8, .int .u64 16] 30)
    simpa using this
  have h2 : W.heap[S + 2]? = some (.cells #[.int .u64 45] 30 (0, 0)) := by
    rw [hW, ← hS]
    have := heap_alloc_new ((w.alloc (.cells #[.int .i64 5, .slice (some ⟨w.heap.size + 1, 0, none⟩) 2 2, .int .i64 0, .slice none 0 0, .int .i64 2, .int .i64 0, .slice none 0 0, .slice (some ⟨w.heap.size + 1 + 1, 0, none⟩) 1 1, .slice none 0 0] 28)).alloc (.cells #[.int .u64 8, .int .u64 16] 30)) (.cells #[.int .u64 45] 30)
    simpa using this
  clear hW
  have q0 := h0.c0
  have q1 := h0.c1
  have q2 := h0.c2
  have q3 := h0.c3
  have q4 := h0.c4
  have q5 := h0.c5
  have q6 := h0.c6
  have q7 := h0.c7
  have q8 := h0.c8
  simp only [pR] at q0 q1 q2 q3 q4 q5 q6 q7 q8
  refine bodyPost_ret (v := .agg #[.int .i64 5, .slice (some ⟨S + 1, 0, none⟩) 2 2, .int .i64 0, .slice none 0 0, .int .i64 2, .int .i64 0, .slice none 0 0, .slice (some ⟨S + 2, 0, none⟩) 1 1, .slice none 0 0]) (by simp [results, Tryz.results25, go_sem, q0, q1, q2, q3, q4, q5, q6, q7, q8]) rfl ?_
  exact ⟨S, rfl, pd_dv h1 h2, hb⟩
set_option maxRecDepth 100000 in
theorem sls_nil (w : World) : SLs w none 0 0 [] := ⟨rfl, Nat.le_refl _, by decide, fun i hi => absurd hi (by omega), fun h => absurd h (by omega)⟩
set_option maxRecDepth 100000 in
theorem pd_sm : ∀ f ∈ pd.y :: pd.o :: pd.fs, f.ws.length ≤ 1000 := by decide
set_option maxRecDepth 100000 in
theorem read_pair {w : World} {S : Nat} (h : DV w (pR S 0) pd) : Calls Tryz.prog 10 #[.agg #[.int .i64 5, .slice (some ⟨S + 1, 0, none⟩) 2 2, .int .i64 0, .slice none 0 0, .int .i64 2, .int .i64 0, .slice none 0 0, .slice (some ⟨S + 2, 0, none⟩) 1 1, .slice none 0 0], .slice none 0 0, .int .u64 45] w fun e w' =>
    ∃ n g A ln lc u s b o d, e = .returned (.tuple #[.agg #[.int .i64 8, .int .i64 n, .bool g, .slice A ln lc, .int .u64 u, .string s, .slice (some ⟨b, o, none⟩) 2 d], .bool true]) ∧ w'.cell? ⟨b, o + 7 + 1, none⟩ = some (.int .i64 2) ∧ 2 ≤ d ∧ Below w.heap.size w w' := by
  refine (read_any h (by simp [pR]) pd_sm (sls_nil w) (by decide) 45 (by unfold Wd; decide)).mono ?_
  rintro e w' ⟨⟨t, R, hr, _, rfl, tv, _⟩ | ⟨hno, _⟩, hb⟩
  · rw [hr.det pd_rd] at tv
    have hk := tv.tv.kind
    have hl := tv.tv.len
    obtain ⟨b, o, r, t', hB, _, h7, ht, tv2⟩ := tv.tv.args.get 1 (by rw [← hl]; decide)
    have hd := tv.tv.args.md
    have e2 : r.n = 2 := by
      have := tv2.num
      rw [show t' = nuT 1 2 by simpa [pT, ndT, Tm.args] using ht.symm] at this
      exact this.symm
    obtain ⟨k, n, g, A, ln, lc, u, s, B, m, d⟩ := R
    simp only at hk hl hB hd
    subst hB
    have hk : k = 8 := hk.symm
    have hl : m = 2 := hl.symm
    subst hk hl
    refine ⟨n, g, A, ln, lc, u, s, b, o, d, rfl, ?_, hd, hb⟩
    have := h7.c1
    rw [e2] at this
    exact this
  · exact absurd (hno pT pd_rd) (by have := pT_wt; omega)
set_option maxRecDepth 100000 in
theorem why_pair {w : World} {S : Nat} (h : DV w (pR S 0) pd) : Calls Tryz.prog 12 #[.agg #[.int .i64 5, .slice (some ⟨S + 1, 0, none⟩) 2 2, .int .i64 0, .slice none 0 0, .int .i64 2, .int .i64 0, .slice none 0 0, .slice (some ⟨S + 2, 0, none⟩) 1 1, .slice none 0 0], .slice none 0 0] w fun e w' => e = .returned (.string ⟨#[]⟩) ∧ Below w.heap.size w w' := by
  have := why_any h (by simp [pR]) pd_sm (by simp [pR]) (by simp [pR]) (sls_nil w) (by decide)
  rw [pd_why] at this
  exact this
set_option maxRecDepth 100000 in
theorem why_bad {w : World} {S : Nat} (h : DV w (pR S 0) pd) : Calls Tryz.prog 12 #[.agg #[.int .i64 5, .slice (some ⟨S + 1, 0, none⟩) 2 2, .int .i64 0, .slice none 0 0, .int .i64 2, .int .i64 3, .slice none 0 0, .slice (some ⟨S + 2, 0, none⟩) 1 1, .slice none 0 0], .slice none 0 0] w fun e w' => e = .returned (.string ⟨#[114, 101, 103, 105, 111, 110, 115]⟩) ∧ Below w.heap.size w w' := by
  have := why_any (bd_dv h) (by simp [pR]) pd_sm (by simp [pR]) (by simp [pR]) (sls_nil w) (by decide)
  rw [bd_why] at this
  exact this
set_option maxRecDepth 100000 in
theorem live_pair {w : World} {S : Nat} (h : DV w (pR S 0) pd) : Calls Tryz.prog 19 #[.agg #[.int .i64 5, .slice (some ⟨S + 1, 0, none⟩) 2 2, .int .i64 0, .slice none 0 0, .int .i64 2, .int .i64 0, .slice none 0 0, .slice (some ⟨S + 2, 0, none⟩) 1 1, .slice none 0 0]] w fun e w' => e = .returned (.int .i64 2) ∧ Below w.heap.size w w' := by
  refine (live_any h (by simp [pR]) pd_sm (by simp [pR])).mono ?_
  rintro e w' ⟨gs', l, hg, hR, rfl, hb⟩
  rcases hg with ⟨_, rfl⟩ | ⟨hn, _⟩
  · exact ⟨by rw [pd_live hR], hb⟩
  · exact absurd pd_sepa hn
set_option maxRecDepth 100000 in
set_option maxRecDepth 100000 in
set_option maxHeartbeats 400000 in
theorem awake12_any (w : World) : Calls Tryz.prog 8 #[] w fun e w' => e = .returned (.bool true) ∧ Below w.heap.size w w' := by
  go_enter Tryz.func8, Tryz.ntmps8
  go_upto_region 1 with fail
  go_upto_region 2 with (first
    | (go_at_call 25; refine (pair_any _).mono ?_; rintro e w1 ⟨S1, rfl, hd1, hb1⟩)
    | (go_at_call 10; refine (read_pair hd1).mono ?_; rintro e w2 ⟨n, g, A, ln, lc, u, s, b, o, d, rfl, hc2, hd2, hb2⟩))
  have hT : (w2.alloc (.cells #[.int .i64 8, .int .i64 n, .bool g, .slice A ln lc, .int .u64 u, .string s, .slice (some ⟨b, o, none⟩) 2 d] 40)).heap[w2.heap.size]? = some (.cells #[.int .i64 8, .int .i64 n, .bool g, .slice A ln lc, .int .u64 u, .string s, .slice (some ⟨b, o, none⟩) 2 d] 40 (0, 0)) := heap_alloc_new w2 _
  have ha2 : Below w2.heap.size w2 (w2.alloc (.cells #[.int .i64 8, .int .i64 n, .bool g, .slice A ln lc, .int .u64 u, .string s, .slice (some ⟨b, o, none⟩) 2 d] 40)) := (Below.refl _ w2).alloc (Nat.le_refl _) _
  have hc3 := (ha2.cell (p := ⟨b, o + 7 + 1, none⟩) (World.block_lt_of_cell? w2 _ hc2)).trans hc2
  have h12 := hb1.trans (hb2.mono hb1.size)
  have hb3 := Lib.hid (h12.trans (ha2.mono h12.size))
  clear hc2 ha2 h12 hb1 hb2 hd1
  generalize w2.alloc (.cells #[.int .i64 8, .int .i64 n, .bool g, .slice A ln lc, .int .u64 u, .string s, .slice (some ⟨b, o, none⟩) 2 d] 40) = w3 at *
  generalize w2.heap.size = G at *
  go_upto_region 3 with (go_at_call 25; refine (pair_any _).mono ?_; rintro e w4 ⟨S4, rfl, hd4, hb4⟩)
  go_upto_region 4 with fail
  have a4 : Below w4.heap.size w4 (w4.alloc (.cells #[.int .i64 5, .slice (some ⟨S4 + 1, 0, none⟩) 2 2, .int .i64 0, .slice none 0 0, .int .i64 2, .int .i64 3, .slice none 0 0, .slice (some ⟨S4 + 2, 0, none⟩) 1 1, .slice none 0 0] 28)) := (Below.refl _ w4).alloc (Nat.le_refl _) _
  have bx5 : Bx (w4.alloc (.cells #[.int .i64 5, .slice (some ⟨S4 + 1, 0, none⟩) 2 2, .int .i64 0, .slice none 0 0, .int .i64 2, .int .i64 3, .slice none 0 0, .slice (some ⟨S4 + 2, 0, none⟩) 1 1, .slice none 0 0] 28)) w4.heap.size (pR S4 3) := ⟨heap_alloc_new w4 _⟩
  have h34 := hb4.trans (a4.mono hb4.size)
  have hT5 := (h34.block G (Array.getElem?_eq_some_iff.1 hT).1).trans hT
  have hc5 := (h34.cell (p := ⟨b, o + 7 + 1, none⟩) (World.block_lt_of_cell? w3 _ hc3)).trans hc3
  have hb5 := Lib.hid (hb3.out.trans (h34.mono hb3.out.size))
  have hd5 := Lib.hid (hd4.below a4)
  clear a4 h34 hT hc3 hb3 hb4 hd4
  generalize w4.alloc (.cells #[.int .i64 5, .slice (some ⟨S4 + 1, 0, none⟩) 2 2, .int .i64 0, .slice none 0 0, .int .i64 2, .int .i64 3, .slice none 0 0, .slice (some ⟨S4 + 2, 0, none⟩) 1 1, .slice none 0 0] 28) = w5 at *
  generalize w4.heap.size = E at *
  replace bx5 := Lib.hid bx5
  have hc := Lib.hid (Below.refl w5.heap.size w5)
  have u0 : w5.cell? ⟨G, 0, none⟩ = some (.int .i64 8) := (cell_of_row w5 G 0 _ _ (0, 0) hT5).trans rfl
  have u6 : w5.cell? ⟨G, 6, none⟩ = some (.slice (some ⟨b, o, none⟩) 2 d) := (cell_of_row w5 G 6 _ _ (0, 0) hT5).trans rfl
  clear hT5
  have bk := bx5.out
  have q0 := bk.c0; have q1 := bk.c1; have q2 := bk.c2; have q3 := bk.c3; have q4 := bk.c4; have q5 := bk.c5; have q6 := bk.c6; have q7 := bk.c7; have q8 := bk.c8; simp only [pR] at q0 q1 q2 q3 q4 q5 q6 q7 q8; clear bk
  go_wp2_with (first
    | (go_at_call 25; (with_reducible refine (pair_any _).mono ?_); rintro e w6 ⟨S6, rfl, hd6, hb6⟩; replace hd6 := Lib.hid hd6; replace hc := Lib.hid (hc.out.trans (hb6.mono hc.out.size)); clear hb6; clear q0 q1 q2 q3 q4 q5 q6 q7 q8; have bk := bx5.out.below hc.out bx5.out.lt; have q0 := bk.c0; have q1 := bk.c1; have q2 := bk.c2; have q3 := bk.c3; have q4 := bk.c4; have q5 := bk.c5; have q6 := bk.c6; have q7 := bk.c7; have q8 := bk.c8; simp only [pR] at q0 q1 q2 q3 q4 q5 q6 q7 q8; clear bk)
    | (go_at_call 12; (with_reducible refine (why_pair hd6.out).mono ?_); rintro e w7 ⟨rfl, hb7⟩; replace hc := Lib.hid (hc.out.trans (hb7.mono hc.out.size)); clear hb7; clear q0 q1 q2 q3 q4 q5 q6 q7 q8; have bk := bx5.out.below hc.out bx5.out.lt; have q0 := bk.c0; have q1 := bk.c1; have q2 := bk.c2; have q3 := bk.c3; have q4 := bk.c4; have q5 := bk.c5; have q6 := bk.c6; have q7 := bk.c7; have q8 := bk.c8; simp only [pR] at q0 q1 q2 q3 q4 q5 q6 q7 q8; clear bk)
    | (go_at_call 12; (with_reducible refine (why_bad (hd5.out.below hc.out)).mono ?_); rintro e w7 ⟨rfl, hb7⟩; replace hc := Lib.hid (hc.out.trans (hb7.mono hc.out.size)); clear hb7; clear q0 q1 q2 q3 q4 q5 q6 q7 q8; have bk := bx5.out.below hc.out bx5.out.lt; have q0 := bk.c0; have q1 := bk.c1; have q2 := bk.c2; have q3 := bk.c3; have q4 := bk.c4; have q5 := bk.c5; have q6 := bk.c6; have q7 := bk.c7; have q8 := bk.c8; simp only [pR] at q0 q1 q2 q3 q4 q5 q6 q7 q8; clear bk)
    | (go_at_call 19; (with_reducible refine (live_pair hd6.out).mono ?_); rintro e w8 ⟨rfl, hb8⟩; replace hc := Lib.hid (hc.out.trans (hb8.mono hc.out.size)); clear hb8))
  go_ret
  exact ⟨rfl, hb5.out.trans (hc.out.mono hb5.out.size)⟩
end Go.Proofs.YtejmmjedognaaaaGreat

namespace Go.Proofs.YtejmmjedognaaaaGreat
open Go.RowKit Go.Shelf
open St

set_option maxRecDepth 100000 in
set_option maxRecDepth 100000 in
set_option maxHeartbeats 2000000 in
theorem ins0 {A : Option Addr} {c : Nat} {w : World} :
    Calls Tryz.prog 102 #[.slice A 0 c, .int .i64 0, .int .i64 0] w fun e w' => e = .returned (.tuple #[]) ∧ w' = w := by
  go_enter Tryz.func102, Tryz.ntmps102
  go_wp2
  refine wp_loop_rounds 1 ?_
  rw [rounds_succ]
  go_wp2
  go_end0
  exact ⟨rfl, rfl⟩
set_option maxRecDepth 100000 in
set_option maxRecDepth 100000 in
set_option maxHeartbeats 2000000 in
theorem pdq0 {A : Option Addr} {c : Nat} {w : World} (lim : Int) :
    Calls Tryz.prog 76 #[.slice A 0 c, .int .i64 0, .int .i64 0, .int .i64 lim] w fun e w' => e = .returned (.tuple #[]) ∧ w' = w := by
  go_enter Tryz.func76, Tryz.ntmps76
  go_wp2
  refine wp_loop_rounds 1 ?_
  rw [rounds_succ]
  go_wp2_with (go_at_call 102; refine ins0.mono ?_; rintro e w' ⟨rfl, rfl⟩)
  (try simp only [Exit.inBlock, Exit.then]); refine bodyPost_ret (results_none rfl _ _ _) rfl ?_
  exact ⟨rfl, rfl⟩
set_option maxRecDepth 100000 in
set_option maxRecDepth 100000 in
set_option maxHeartbeats 2000000 in
theorem sort0 {A : Option Addr} {c : Nat} {w : World} :
    Calls Tryz.prog 45 #[.slice A 0 c] w fun e w' => e = .returned (.tuple #[]) ∧ w' = w := by
  have HB := Lib.hid (bits_any 0 (by omega))
  go_enter Tryz.func45, Tryz.ntmps45
  go_wp2_with (first
    | (go_at_call 77; refine (HB.out _).mono ?_; rintro e w' ⟨⟨l, rfl⟩, rfl⟩)
    | (go_at_call 76; refine (pdq0 _).mono ?_; rintro e w' ⟨rfl, rfl⟩))
  go_end0
  exact ⟨rfl, rfl⟩
set_option maxRecDepth 100000 in
theorem rchd_nil {gs : List Frg} {l : List OR} (h : Rchd gs [] l) : l = [] := by
  rcases l with _ | ⟨p, l⟩
  · rfl
  · exfalso
    have h1 := (h.2 p.x).1 (by simp)
    have h2 : ∀ x, Rch gs [] x → False := fun x hx => by
      induction hx with
      | root h _ => cases h
      | step _ _ _ _ ih => exact ih
    exact h2 _ h1
set_option maxRecDepth 100000 in
set_option maxRecDepth 100000 in
set_option maxHeartbeats 4000000 in
theorem handles_nil {w : World} {r : DR} {d : Dmp} (h : DV w r d) (hm : r.fm ≤ 6) (hgs0 : ∀ f ∈ d.y :: d.o :: d.fs, f.ws.length ≤ 1000) (hr : d.roots = []) :
    Calls Tryz.prog 18 #[.agg #[.int .i64 r.y.at_, .slice r.y.A r.y.n r.y.c, .int .i64 r.o.at_, .slice r.o.A r.o.n r.o.c, .int .i64 r.size, .int .i64 r.mark, .slice r.F r.fm r.fc, .slice r.R r.rm r.rc, .slice r.H r.hm r.hc]] w fun e w' => (∃ A c, e = .returned (.slice A 0 c)) ∧ Below w.heap.size w w' := by
  obtain ⟨wa, hwa⟩ : ∃ wa, wa = w.alloc (.cells #[.int .i64 r.y.at_, .slice r.y.A r.y.n r.y.c, .int .i64 r.o.at_, .slice r.o.A r.o.n r.o.c, .int .i64 r.size, .int .i64 r.mark, .slice r.F r.fm r.fc, .slice r.R r.rm r.rc, .slice r.H r.hm r.hc] 28) := ⟨_, rfl⟩
  have hba : Below w.heap.size w wa := by rw [hwa]; exact (Below.refl _ w).alloc (Nat.le_refl _) _
  have bxa : Bx wa w.heap.size r := ⟨by rw [hwa]; exact heap_alloc_new w _⟩
  have hS := Lib.hid (sepq_any (h.below hba) hm hgs0)
  have hgl : ∀ gs', sepG (d.y :: d.o :: d.fs) gs' → gs'.length ≤ 8 ∧ ∀ f ∈ gs', f.ws.length ≤ 1000 := fun gs' hsg => by
    obtain ⟨h1, h2⟩ := sepG_sub hsg
    have h3 := h.fs.lef
    simp only [List.length_cons] at h1
    exact ⟨by omega, fun f hf => hgs0 f (h2 f hf)⟩
  have hrm : r.rm ≤ 1000 := by
    have := h.roots.len
    rw [hr] at this
    simp at this
    omega
  have HZ : Hid (∀ w', Below wa.heap.size wa w' → Zs .u64 w' r.R r.rm r.rc []) := Lib.hid (fun w' hb => by
    have := (h.roots.below hba).below hb
    rw [hr] at this
    exact this)
  have HG := Lib.hid hgl
  clear h hgs0 hr hgl
  go_enter Tryz.func18, Tryz.ntmps18
  go_upto_region 1 with fail
  rw [← hwa]
  clear hwa
  have q0 := bxa.c0
  have q1 := bxa.c1
  have q2 := bxa.c2
  have q3 := bxa.c3
  have q4 := bxa.c4
  have q5 := bxa.c5
  have q6 := bxa.c6
  have q7 := bxa.c7
  have q8 := bxa.c8
  go_wp2_with (first
    | (go_at_call 29; (with_reducible refine hS.out.mono ?_); rintro e w1 ⟨gs, A1, n1, c1, ok, rfl, hsg, hok, hM, hb1⟩; clear q0 q1 q2 q3 q4 q5 q6 q7 q8; have q7 := (bxa.below hb1 bxa.lt).c7; replace hb1 := Lib.hid hb1; replace hM := Lib.hid hM; replace hsg := Lib.hid hsg)
    | (go_at_call 44; refine (rh_any hM.out (HG.out _ hsg.out).2 (HG.out _ hsg.out).1 (HZ.out _ hb1.out) hrm).mono ?_; rintro e w2 ⟨A2, c2, l, rfl, hRl, hrw, hb2⟩; rw [rchd_nil hRl]; replace hb2 := Lib.hid hb2; clear hRl hrw; rw [show ((hdO []).length : Nat) = 0 from rfl])
    | (go_at_call 45; refine sort0.mono ?_; rintro e w3 ⟨rfl, rfl⟩))
  go_ret
  exact ⟨⟨_, _, rfl⟩, hba.trans ((hb1.out.trans (hb2.out.mono hb1.out.size)).mono hba.size)⟩
end Go.Proofs.YtejmmjedognaaaaGreat

namespace Go.Proofs.YtejmmjedognaaaaGreat
open Go.RowKit Go.Shelf
open St

set_option maxRecDepth 100000 in
theorem why_yes {gs : List Frg} {S : List Slt} {d : Dmp} (h : whyO gs S d = ⟨#[]⟩) : (Sepa gs ∧ msB d = true) ∧ RtsOk gs S d.roots ∧ clR d.o = true ∧ HdOk gs S d.roots d.hs := by
  unfold whyO at h
  split at h
  · exact absurd h (by decide)
  · next h1 =>
    split at h
    · exact absurd h (by decide)
    · next h2 =>
      split at h
      · exact absurd h (by decide)
      · next h3 =>
        split at h
        · exact absurd h (by decide)
        · next h4 => exact ⟨Classical.not_not.1 h1, Classical.not_not.1 h2, by simpa using h3, Classical.not_not.1 h4⟩
set_option maxRecDepth 100000 in
theorem rch_mono {gs : List Frg} {r1 r2 : List Int} (h : ∀ x ∈ r1, x ∈ r2) {x : Int} (hx : Rch gs r1 x) : Rch gs r2 x := by
  induction hx with
  | root hr ho => exact .root (h _ hr) ho
  | step _ hk hm ho ih => exact .step ih hk hm ho
set_option maxRecDepth 100000 in
theorem why_sub {gs : List Frg} {S : List Slt} {d : Dmp} (h : whyO gs S d = ⟨#[]⟩) (rs : List Int) (hr : ∀ x ∈ rs, x ∈ d.roots) : whyO gs S { d with roots := rs } = ⟨#[]⟩ := by
  obtain ⟨h1, h2, h3, h4⟩ := why_yes h
  exact why_no (d := { d with roots := rs }) ⟨h1.1, h1.2⟩ (fun x hx => h2 x (hr x hx)) h3 ⟨h4.1, h4.2.1, fun x ws hx ho => h4.2.2 x ws (rch_mono hr hx) ho⟩
/-- How many words the object holds that a word leads to. -/
def szX (gs : List Frg) (x : Int) : Int := match objO gs x with
  | some (k, ws) => if k = -1 then (ws.length : Int) else 1 + ws.length
  | none => 0
set_option maxRecDepth 100000 in
theorem szX_pos (gs : List Frg) (x : Int) : 0 ≤ szX gs x := by
  unfold szX
  split
  · split <;> omega
  · omega
set_option maxRecDepth 100000 in
theorem szO_x {gs : List Frg} : ∀ {l : List OR}, (∀ p ∈ l, objO gs p.x = some (p.k, p.ws) ∧ p.n = p.ws.length) → szO l = ((l.map (·.x)).map (szX gs)).sum
  | [], _ => rfl
  | p :: l, h => by
    obtain ⟨h1, h2⟩ := h p (by simp)
    have e : szO (p :: l) = szI p + szO l := by simp [szO]
    rw [e, szO_x (fun q hq => h q (by simp [hq]))]
    simp only [List.map_cons, List.sum_cons]
    congr 1
    unfold szX szI
    rw [h1, h2]
set_option maxRecDepth 100000 in
theorem sum_pos {f : Int → Int} (hf : ∀ x, 0 ≤ f x) : ∀ b : List Int, 0 ≤ (b.map f).sum
  | [] => by simp
  | x :: b => by simp only [List.map_cons, List.sum_cons]; have := hf x; have := sum_pos hf b; omega
set_option maxRecDepth 100000 in
theorem perm_sum {a b : List Int} (h : a.Perm b) : a.sum = b.sum := by
  induction h with
  | nil => rfl
  | cons x _ ih => simp only [List.sum_cons]; omega
  | swap x y l => simp only [List.sum_cons]; omega
  | trans _ _ h1 h2 => omega
set_option maxRecDepth 100000 in
theorem sum_sub {f : Int → Int} (hf : ∀ x, 0 ≤ f x) : ∀ {a b : List Int}, a.Nodup → (∀ x ∈ a, x ∈ b) → (a.map f).sum ≤ (b.map f).sum
  | [], b, _, _ => sum_pos hf b
  | x :: a, b, hn, hs => by
    obtain ⟨hx, hn⟩ := List.nodup_cons.1 hn
    have hb : x ∈ b := hs x (by simp)
    have e := perm_sum ((List.perm_cons_erase hb).map f)
    rw [e]
    simp only [List.map_cons, List.sum_cons]
    have := sum_sub hf (b := b.erase x) hn (fun y hy => (List.mem_erase_of_ne (fun e => hx (by rw [← e]; exact hy))).2 (hs y (by simp [hy])))
    omega
set_option maxRecDepth 100000 in
theorem szO_le {gs : List Frg} {r1 r2 : List Int} (h : ∀ x ∈ r1, x ∈ r2) {l1 l2 : List OR} (h1 : Rchd gs r1 l1) (h2 : Rchd gs r2 l2) : szO l1 ≤ szO l2 := by
  rw [szO_x (fun p hp => (h1.1.2 p hp).2), szO_x (fun p hp => (h2.1.2 p hp).2)]
  exact sum_sub (szX_pos gs) h1.1.1 (fun x hx => (h2.2 x).2 (rch_mono h ((h1.2 x).1 hx)))
set_option maxRecDepth 100000 in
theorem rd_kind {gs : List Frg} {S : List Slt} {x : Int} {t : Tm} (h : Rd gs S x t) : t.kind ≠ 0 := by
  obtain ⟨n, h⟩ := h
  rcases n with _ | n
  · simp [rdF] at h
  · unfold rdF at h
    by_cases h1 : plB x = false
    · rw [if_pos h1] at h; cases h
    · rw [if_neg h1] at h
      by_cases h2 : x % 8 = 0
      · rw [if_pos h2] at h; injection h with h; subst h; simp [nuT, Tm.kind]
      · rw [if_neg h2] at h
        by_cases h3 : x % 8 = 1
        · rw [if_pos h3] at h; injection h with h; subst h; simp [nuT, Tm.kind]
        · rw [if_neg h3] at h
          by_cases h4 : x % 8 = 2
          · rw [if_pos h4] at h; injection h with h; subst h; simp [nuT, Tm.kind]
          · rw [if_neg h4] at h
            by_cases h5 : x % 8 = 3
            · rw [if_pos h5] at h; injection h with h; subst h; simp [nuT, Tm.kind]
            · rw [if_neg h5] at h
              cases h6 : objO gs x with
              | none => rw [h6] at h; cases h
              | some p =>
                obtain ⟨k, ws⟩ := p
                rw [h6] at h
                simp only at h
                by_cases hk : k = -1 ∨ k = 0
                · rw [if_pos hk, Option.map_eq_some_iff] at h
                  obtain ⟨ts, _, rfl⟩ := h
                  unfold ndT Tm.kind
                  simp only
                  split <;> simp
                · rw [if_neg hk] at h
                  unfold lfO at h
                  split at h
                  · injection h with h; subst h; simp [bgT, Tm.kind]
                  · split at h
                    · injection h with h; subst h; simp [flT, Tm.kind]
                    · split at h
                      · injection h with h; subst h; simp [biT, Tm.kind]
                      · cases h
end Go.Proofs.YtejmmjedognaaaaGreat

namespace Go.Proofs.YtejmmjedognaaaaGreat
open Go.RowKit

set_option maxRecDepth 100000 in
theorem low_nval (x : Int) (m : Nat) (hm : 0 < m) (hm' : m ≤ 1000000000) : ∃ r : Nat, r < m ∧ wrap64 ((IntKind.u64.wrap x).tmod m) = (r : Int) := by
  have h0 : 0 ≤ IntKind.u64.wrap x := by rw [IntKind.wrap_u64]; omega
  generalize IntKind.u64.wrap x = y at *
  have h1 : y.tmod m = y % m := Int.tmod_eq_emod_of_nonneg h0
  have h2 := Int.emod_nonneg y (show (m : Int) ≠ 0 by omega)
  have h3 := Int.emod_lt_of_pos y (show (0 : Int) < m by omega)
  rw [h1]
  generalize y % (m : Int) = z at *
  exact ⟨z.toNat, by omega, by simp only [wrap64]; omega⟩
set_option maxRecDepth 100000 in
theorem low_nat (x : Int) (m : Nat) (hm : 0 < m) (hm' : m ≤ 1000000000) : ∃ r : Nat, r < m ∧
    ∀ w : World, Calls Tryz.prog 22 #[.int .i64 x, .int .i64 m] w fun e w' => e = .returned (.int .i64 r) ∧ w = w' := by
  obtain ⟨r, h1, h2⟩ := low_nval x m hm hm'
  have H2 := Lib.hid h2
  clear h2
  refine ⟨r, h1, fun w => ?_⟩
  go_enter Tryz.func22, Tryz.ntmps22
  go_wp2
  go_ret
  exact ⟨by rw [← H2.out]; rfl, rfl⟩
set_option maxRecDepth 100000 in
theorem low_int (x m : Int) (hm : 0 < m) (hm' : m ≤ 1000000000) : ∃ r : Nat, (r : Int) < m ∧
    ∀ w : World, Calls Tryz.prog 22 #[.int .i64 x, .int .i64 m] w fun e w' => e = .returned (.int .i64 r) ∧ w = w' := by
  obtain ⟨p, rfl⟩ : ∃ p : Nat, m = (p : Int) := ⟨m.toNat, by omega⟩
  obtain ⟨r, h1, h2⟩ := low_nat x p (by omega) (by omega)
  exact ⟨r, by omega, h2⟩
end Go.Proofs.YtejmmjedognaaaaGreat
