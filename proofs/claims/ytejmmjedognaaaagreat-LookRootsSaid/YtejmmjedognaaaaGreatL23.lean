/-
  THE REFERENCE's LOOK: sub.
  LOOK: what a word leads to, and what it stands for: plain mathematics over regions. Nothing of the program stands here.
-/
import Derived.Test.YtejmmjedognaaaaGreatL22
import Derived.Test.YtejmmjedognaaaaGreatL20
namespace Go.Proofs.YtejmmjedognaaaaGreat
open Go.RowKit
open St

set_option maxRecDepth 100000 in
theorem box12_none {w : World} {r : DR} {d : Dmp} (h : DV w r d) (hm : r.fm ≤ 1000) (SA : Option Addr) (sm sc : Nat) (dp : Bool) (x : Int) (hx : Wd x) (hN : boxO (d.y :: d.o :: d.fs) x = none) :
    Calls Tryz.prog 72 #[.agg #[.int .i64 r.y.at_, .slice r.y.A r.y.n r.y.c, .int .i64 r.o.at_, .slice r.o.A r.o.n r.o.c, .int .i64 r.size, .int .i64 r.mark, .slice r.F r.fm r.fc, .slice r.R r.rm r.rc, .slice r.H r.hm r.hc, .slice SA sm sc, .bool dp], .int .u64 x] w fun e w' => e = .returned (.tuple #[.int .i64 0, .slice none 0 0, .bool false]) ∧ Below w.heap.size w w' :=
  (box12_any h hm SA sm sc dp x hx).mono fun e w' hh => by
    obtain ⟨⟨_, rfl⟩ | ⟨k, ws, A, n, c, hk, _⟩, hb⟩ := hh
    · exact ⟨rfl, hb⟩
    · rw [hN] at hk; cases hk
set_option maxRecDepth 100000 in
theorem box12_some {w : World} {r : DR} {d : Dmp} (h : DV w r d) (hm : r.fm ≤ 1000) (SA : Option Addr) (sm sc : Nat) (dp : Bool) (x : Int) (hx : Wd x) {k : Int} {ws : List Int} (hN : boxO (d.y :: d.o :: d.fs) x = some (k, ws)) :
    Calls Tryz.prog 72 #[.agg #[.int .i64 r.y.at_, .slice r.y.A r.y.n r.y.c, .int .i64 r.o.at_, .slice r.o.A r.o.n r.o.c, .int .i64 r.size, .int .i64 r.mark, .slice r.F r.fm r.fc, .slice r.R r.rm r.rc, .slice r.H r.hm r.hc, .slice SA sm sc, .bool dp], .int .u64 x] w fun e w' => ∃ A n c, e = .returned (.tuple #[.int .i64 k, .slice A n c, .bool true]) ∧ Zs .u64 w' A n c ws ∧ Below w.heap.size w w' :=
  (box12_any h hm SA sm sc dp x hx).mono fun e w' hh => by
    obtain ⟨⟨hk, _⟩ | ⟨k', ws', A, n, c, hk, rfl, hz, _⟩, hb⟩ := hh
    · rw [hN] at hk; cases hk
    · rw [hN] at hk
      injection hk with hk
      injection hk with e1 e2
      subst e1 e2
      exact ⟨A, n, c, rfl, hz, hb⟩

/-- A HeadSub's. -/
def sbZ (S : List Slt) (dp : Bool) (f m : Int) : Option (Int × List Int) → ByteArray × Bool
  | none => (⟨#[]⟩, false)
  | some (kd, base) =>
    if f < 0 ∨ m < 0 then (⟨#[]⟩, false)
    else if (byR S dp kd base).2.2 = false ∨ (byR S dp kd base).2.1 - f < m then (⟨#[]⟩, false)
    else if dp = false ∧ kd = 4 then (⟨#[]⟩, true)
    else ((byR S dp kd base).1.extract f.toNat (f.toNat + m.toNat), true)
def subR (gs : List Frg) (S : List Slt) (dp : Bool) (ws : List Int) : ByteArray × Bool :=
  if ws.length ≠ 3 then (⟨#[]⟩, false) else sbZ S dp (smlZ (ws.getD 1 0) 400) (smlZ (ws.getD 2 0) 400) (boxO gs (ws.getD 0 0))
def SuP (w : World) (x : ByteArray × Bool) (e : Ending) (w' : World) : Prop := e = .returned (.tuple #[.string x.1, .bool x.2]) ∧ Below w.heap.size w w'

set_option maxRecDepth 100000 in
theorem atL_len {gs : List Frg} {a : Int} {M : Nat} (h : ∀ f ∈ gs, f.ws.length ≤ M) : (atL gs a).length ≤ M := by
  induction gs with
  | nil => exact Nat.zero_le _
  | cons f gs ih =>
    unfold atL
    split
    · rw [List.length_drop]
      have := h f (by simp)
      omega
    · exact ih (fun g hg => h g (by simp [hg]))
set_option maxRecDepth 100000 in
theorem boxO_len {gs : List Frg} {x : Int} {M : Nat} (h : ∀ f ∈ gs, f.ws.length ≤ M) {kd : Int} {ws : List Int} (hb : boxO gs x = some (kd, ws)) : ws.length ≤ M := by
  have h1 := atL_len (a := ldZ x) h
  unfold boxO at hb
  cases hz : atL gs (ldZ x) with
  | nil => rw [hz] at hb; cases hb
  | cons a t =>
    rw [hz] at hb h1
    have e : boxZ x (a :: t) = if x % 8 = 4 ∧ ptB a = true ∧ a / 64 ≤ (t.length : Int) then some (a / 8 % 8, t.take (a / 64).toNat) else none := rfl
    rw [e] at hb
    by_cases hc : x % 8 = 4 ∧ ptB a = true ∧ a / 64 ≤ (t.length : Int)
    · rw [if_pos hc] at hb
      injection hb with hb
      injection hb with _ hb
      rw [← hb, List.length_take]
      simp at h1
      omega
    · rw [if_neg hc] at hb
      cases hb

section
variable {w : World} {r : DR} {d : Dmp} {SA : Option Addr} {sm sc : Nat} {S : List Slt} {dp : Bool} {A : Option Addr} {n c : Nat} {ws : List Int}
set_option maxRecDepth 100000 in
set_option maxRecDepth 100000 in
set_option maxHeartbeats 8000000 in
theorem sub12_any (h : DV w r d) (hm : r.fm ≤ 1000) (hS : SLs w SA sm sc S) (hsm : sm ≤ 1000) (hz : Zs .u64 w A n c ws) (hn : n ≤ 1000) (hgs : ∀ f ∈ d.y :: d.o :: d.fs, f.ws.length ≤ 1000) :
    Calls Tryz.prog 122 #[.agg #[.int .i64 r.y.at_, .slice r.y.A r.y.n r.y.c, .int .i64 r.o.at_, .slice r.o.A r.o.n r.o.c, .int .i64 r.size, .int .i64 r.mark, .slice r.F r.fm r.fc, .slice r.R r.rm r.rc, .slice r.H r.hm r.hc, .slice SA sm sc, .bool dp], .slice A n c] w (SuP w (subR (d.y :: d.o :: d.fs) S dp ws)) := by
  obtain ⟨wa, hwa⟩ : ∃ wa, wa = w.alloc (.cells #[.int .i64 r.y.at_, .slice r.y.A r.y.n r.y.c, .int .i64 r.o.at_, .slice r.o.A r.o.n r.o.c, .int .i64 r.size, .int .i64 r.mark, .slice r.F r.fm r.fc, .slice r.R r.rm r.rc, .slice r.H r.hm r.hc, .slice SA sm sc, .bool dp] 72) := ⟨_, rfl⟩
  have hba : Below w.heap.size w wa := by rw [hwa]; exact (Below.refl _ w).alloc (Nat.le_refl _) _
  have HB : Hid (∀ w', Below wa.heap.size wa w' → Below w.heap.size w w') := Lib.hid (fun w' hb => hba.trans (hb.mono hba.size))
  have hl := hz.len
  unfold subR
  rw [hl]
  by_cases h3 : n = 3
  · subst h3
    rw [if_neg (by simp)]
    have va := h.below hba
    have za := hz.below hba
    have sa := hS.below hba
    have xa : Lx wa w.heap.size r SA sm sc dp := ⟨by rw [hwa]; exact heap_alloc_new w _⟩
    obtain ⟨b, o, hA, _⟩ := za.some (by omega)
    subst hA
    have hx0 := wf_u (za.wfAt (j := 0) (by omega))
    have hx1 := wf_u (za.wfAt (j := 1) (by omega))
    have hx2 := wf_u (za.wfAt (j := 2) (by omega))
    have hcm : c ≤ 9223372036854775807 := za.cm
    have hnc := za.nc
    have KA : Hid (∀ w', Below wa.heap.size wa w' → (w'.cell? ⟨b, o, none⟩ = some (.int .u64 (ws.getD 0 0)) ∧ w'.cell? ⟨b, o + 1, none⟩ = some (.int .u64 (ws.getD 1 0)) ∧ w'.cell? ⟨b, o + 2, none⟩ = some (.int .u64 (ws.getD 2 0))) ∧ Lx w' w.heap.size r SA sm sc dp ∧ SLs w' SA sm sc S) := Lib.hid (fun w' hb => by
      have z' := za.below hb
      exact ⟨⟨by simpa using z'.at_ (j := 0) (by omega), z'.at_ (j := 1) (by omega), z'.at_ (j := 2) (by omega)⟩, xa.below hb xa.lt, sa.below hb⟩)
    have HQ : Hid (∀ (w1 : World) (q : Nat), Calls Tryz.prog 100 #[.int .u64 (ws.getD 1 0), .int .i64 400] (w1.drewN q) fun e w'' => e = .returned (.int .i64 (smlZ (ws.getD 1 0) 400)) ∧ ∃ m, w'' = w1.drewN m) := Lib.hid (fun w1 q => Calls.quiet_of_same (w := w1) (n := q) ((small12_any (ws.getD 1 0) 400 hx1 (by omega) (w1.drewN q)).mono fun _ _ h => ⟨h.1, h.2.symm⟩))
    have HQ2 : Hid (∀ (w1 : World) (q : Nat), Calls Tryz.prog 100 #[.int .u64 (ws.getD 2 0), .int .i64 400] (w1.drewN q) fun e w'' => e = .returned (.int .i64 (smlZ (ws.getD 2 0) 400)) ∧ ∃ m, w'' = w1.drewN m) := Lib.hid (fun w1 q => Calls.quiet_of_same (w := w1) (n := q) ((small12_any (ws.getD 2 0) 400 hx2 (by omega) (w1.drewN q)).mono fun _ _ h => ⟨h.1, h.2.symm⟩))
    have hf := sml_cases (ws.getD 1 0) 400
    have hmm := sml_cases (ws.getD 2 0) 400
    have hfb : -1 ≤ smlZ (ws.getD 1 0) 400 ∧ smlZ (ws.getD 1 0) 400 ≤ 400 := by have := hx1.1; omega
    have hmb : -1 ≤ smlZ (ws.getD 2 0) 400 ∧ smlZ (ws.getD 2 0) 400 ≤ 400 := by have := hx2.1; omega
    clear hf hmm hx1 hx2
    cases hbx : boxO (d.y :: d.o :: d.fs) (ws.getD 0 0) with
    | none =>
      have HBx := Lib.hid (box12_none (va.drewN 1) hm SA sm sc dp (ws.getD 0 0) hx0 hbx)
      clear hbx h hS hz va za sa xa hba hx0 hl
      generalize smlZ (ws.getD 1 0) 400 = f at *
      generalize smlZ (ws.getD 2 0) 400 = m at *
      generalize ws.getD 0 0 = x0 at *
      generalize ws.getD 1 0 = x1 at *
      generalize ws.getD 2 0 = x2 at *
      go_enter Tryz.func122, Tryz.ntmps122
      go_upto_region 1 with fail
      rw [← hwa]
      clear hwa
      generalize hD : w.heap.size = D at *
      go_wp2_with fail
      go_region_held3 (fun w' => w'.cell? ⟨b, o, none⟩ = some (.int .u64 x0) ∧ w'.cell? ⟨D, 0, none⟩ = some (.int .i64 r.y.at_) ∧ w'.cell? ⟨D, 1, none⟩ = some (.slice r.y.A r.y.n r.y.c) ∧ w'.cell? ⟨D, 2, none⟩ = some (.int .i64 r.o.at_) ∧ w'.cell? ⟨D, 3, none⟩ = some (.slice r.o.A r.o.n r.o.c) ∧ w'.cell? ⟨D, 4, none⟩ = some (.int .i64 r.size) ∧ w'.cell? ⟨D, 5, none⟩ = some (.int .i64 r.mark) ∧ w'.cell? ⟨D, 6, none⟩ = some (.slice r.F r.fm r.fc) ∧ w'.cell? ⟨D, 7, none⟩ = some (.slice r.R r.rm r.rc) ∧ w'.cell? ⟨D, 8, none⟩ = some (.slice r.H r.hm r.hc) ∧ w'.cell? ⟨D, 9, none⟩ = some (.slice SA sm sc) ∧ w'.cell? ⟨D, 10, none⟩ = some (.bool dp))
        (first | exact ⟨(KA.out wa (Below.refl _ _)).1.1, (KA.out wa (Below.refl _ _)).2.1.all⟩ | exact ⟨(KA.out (wa.drewN 1) (bel_drewN wa 1)).1.1, (KA.out (wa.drewN 1) (bel_drewN wa 1)).2.1.all⟩ | exact ⟨(KA.out w3 hb3).1.1, (KA.out w3 hb3).2.1.all⟩)
        (first
          | (go_at_call 72; refine HBx.out.mono ?_; rintro e w3 ⟨rfl, hb⟩; have hb3 : Below wa.heap.size wa w3 := (bel_drewN wa 1).trans hb))
      have F := KA.out w3 hb3
      obtain ⟨⟨_, g1, g2⟩, F2, _⟩ := F
      have HE := Lib.hid (HB.out _ hb3)
      clear F2
      rename_i hfx
      clear hfx
      go_wp2_with fail
      go_quiet (first | (go_at_call 100; first | with_reducible exact HQ.out _ _ | with_reducible exact HQ2.out _ _))
      go_wp2
      go_ret2
      exact ⟨rfl, by rw [← hD] at *; exact ⟨HE.out.os, HE.out.tape, HE.out.output, HE.out.size, HE.out.block⟩⟩
    | some kb =>
      obtain ⟨kd, base⟩ := kb
      have HBx := Lib.hid (box12_some (va.drewN 1) hm SA sm sc dp (ws.getD 0 0) hx0 hbx)
      have HLN : Hid (base.length ≤ 1000) := Lib.hid (boxO_len hgs hbx)
      clear hbx h hS hz va za sa xa hba hx0 hl hgs
      generalize smlZ (ws.getD 1 0) 400 = f at *
      generalize smlZ (ws.getD 2 0) 400 = m at *
      generalize ws.getD 0 0 = x0 at *
      generalize ws.getD 1 0 = x1 at *
      generalize ws.getD 2 0 = x2 at *
      go_enter Tryz.func122, Tryz.ntmps122
      go_upto_region 1 with fail
      rw [← hwa]
      clear hwa
      generalize hD : w.heap.size = D at *
      go_wp2_with fail
      go_region_held3 (fun w' => w'.cell? ⟨b, o, none⟩ = some (.int .u64 x0) ∧ w'.cell? ⟨D, 0, none⟩ = some (.int .i64 r.y.at_) ∧ w'.cell? ⟨D, 1, none⟩ = some (.slice r.y.A r.y.n r.y.c) ∧ w'.cell? ⟨D, 2, none⟩ = some (.int .i64 r.o.at_) ∧ w'.cell? ⟨D, 3, none⟩ = some (.slice r.o.A r.o.n r.o.c) ∧ w'.cell? ⟨D, 4, none⟩ = some (.int .i64 r.size) ∧ w'.cell? ⟨D, 5, none⟩ = some (.int .i64 r.mark) ∧ w'.cell? ⟨D, 6, none⟩ = some (.slice r.F r.fm r.fc) ∧ w'.cell? ⟨D, 7, none⟩ = some (.slice r.R r.rm r.rc) ∧ w'.cell? ⟨D, 8, none⟩ = some (.slice r.H r.hm r.hc) ∧ w'.cell? ⟨D, 9, none⟩ = some (.slice SA sm sc) ∧ w'.cell? ⟨D, 10, none⟩ = some (.bool dp))
        (first | exact ⟨(KA.out wa (Below.refl _ _)).1.1, (KA.out wa (Below.refl _ _)).2.1.all⟩ | exact ⟨(KA.out (wa.drewN 1) (bel_drewN wa 1)).1.1, (KA.out (wa.drewN 1) (bel_drewN wa 1)).2.1.all⟩ | exact ⟨(KA.out w3 hb3).1.1, (KA.out w3 hb3).2.1.all⟩)
        (first
          | (go_at_call 72; refine HBx.out.mono ?_; rintro e w3 ⟨A2, n2, c2, rfl, hz3, hb⟩; have hb3 : Below wa.heap.size wa w3 := (bel_drewN wa 1).trans hb))
      have F := KA.out w3 hb3
      obtain ⟨⟨_, g1, g2⟩, F2, F3⟩ := F
      have HE := Lib.hid (HB.out _ hb3)
      rename_i hfx
      clear hfx
      have hn2 : n2 ≤ 1000 := by rw [← hz3.len]; exact HLN.out
      have HBy := Lib.hid (fun (q : Nat) => bytes12_any (r := r) (dp := dp) kd (hz3.drewN q) hn2 (F3.drewN q) hsm)
      have hok := Lib.hid (@byR_ok S dp kd base)
      have hc10 := F2.c10
      clear hz3 F3 hb
      have u0 := F2.c0
      have u1 := F2.c1
      have u2 := F2.c2
      have u3 := F2.c3
      have u4 := F2.c4
      have u5 := F2.c5
      have u6 := F2.c6
      have u7 := F2.c7
      have u8 := F2.c8
      have u9 := F2.c9
      by_cases hf0 : f < 0
      · have hd4 : decide (f < 0) = true := decide_eq_true hf0
        have HV := Lib.hid (show sbZ S dp f m (some (kd, base)) = (⟨#[]⟩, false) from if_pos (.inl hf0))
        clear F2 HBy hok
        go_wp2_with fail
        go_quiet (first | (go_at_call 100; first | with_reducible exact HQ.out _ _ | with_reducible exact HQ2.out _ _))
        go_wp2
        go_ret2
        exact ⟨by rw [HV.out]; rfl, by rw [hD]; exact ⟨HE.out.os, HE.out.tape, HE.out.output, HE.out.size, HE.out.block⟩⟩
      · have hd4 : decide (f < 0) = false := decide_eq_false hf0
        by_cases hm0 : m < 0
        · have hd5 : decide (m < 0) = true := decide_eq_true hm0
          have HV := Lib.hid (show sbZ S dp f m (some (kd, base)) = (⟨#[]⟩, false) from if_pos (.inr hm0))
          clear F2 HBy hok
          go_wp2_with fail
          go_quiet (first | (go_at_call 100; first | with_reducible exact HQ.out _ _ | with_reducible exact HQ2.out _ _))
          go_wp2
          go_ret2
          exact ⟨by rw [HV.out]; rfl, by rw [hD]; exact ⟨HE.out.os, HE.out.tape, HE.out.output, HE.out.size, HE.out.block⟩⟩
        · have hd5 : decide (m < 0) = false := decide_eq_false hm0
          have HW := (show sbZ S dp f m (some (kd, base)) = (if (byR S dp kd base).2.2 = false ∨ (byR S dp kd base).2.1 - f < m then (⟨#[]⟩, false) else if dp = false ∧ kd = 4 then (⟨#[]⟩, true) else ((byR S dp kd base).1.extract f.toNat (f.toNat + m.toNat), true)) from if_neg (by omega))
          have HE2 : Hid (∀ q w5, Below (w3.drewN q).heap.size (w3.drewN q) w5 → Below D w w5) := Lib.hid (fun q w5 hb => (HB.out _ (hb3.trans (⟨hb.os, hb.tape, hb.output, hb.size, fun k hk => hb.block k (Nat.lt_of_lt_of_le hk hb3.size)⟩ : Below wa.heap.size w3 w5))))
          replace hok := hok.out
          generalize byR S dp kd base = R3 at *
          obtain ⟨s, nn, fine⟩ := R3
          simp only at hok HW
          cases fine with
          | false =>
            have HV := Lib.hid (HW.trans (if_pos (.inl rfl)))
            clear hok HW
            go_wp2_with fail
            go_quiet (first | (go_at_call 100; first | with_reducible exact HQ.out _ _ | with_reducible exact HQ2.out _ _))
            go_wp2_with (go_at_call 73; (with_reducible refine (HBy.out _).mono ?_); rintro e w5 ⟨rfl, hb5⟩; have v10 := (F2.below (D := D) (B := w3.heap.size) (((⟨rfl, rfl, rfl, Nat.le_refl _, fun _ _ => rfl⟩ : Below w3.heap.size w3 (w3.drewN _)).trans (⟨hb5.os, hb5.tape, hb5.output, hb5.size, hb5.block⟩ : Below w3.heap.size (w3.drewN _) w5))) F2.lt).c10; replace hb5 := Lib.hid hb5)
            go_ret2
            exact ⟨by rw [HV.out]; rfl, by rw [hD]; exact HE2.out _ _ hb5.out⟩
          | true =>
            obtain ⟨hn0, hsz⟩ := hok rfl
            by_cases hgt : nn - f < m
            · have hd6 : decide (nn - f < m) = true := decide_eq_true hgt
              have HV := Lib.hid (HW.trans (if_pos (.inr hgt)))
              clear hsz
              clear hok HW
              go_wp2_with fail
              go_quiet (first | (go_at_call 100; first | with_reducible exact HQ.out _ _ | with_reducible exact HQ2.out _ _))
              go_wp2_with (go_at_call 73; (with_reducible refine (HBy.out _).mono ?_); rintro e w5 ⟨rfl, hb5⟩; have v10 := (F2.below (D := D) (B := w3.heap.size) (((⟨rfl, rfl, rfl, Nat.le_refl _, fun _ _ => rfl⟩ : Below w3.heap.size w3 (w3.drewN _)).trans (⟨hb5.os, hb5.tape, hb5.output, hb5.size, hb5.block⟩ : Below w3.heap.size (w3.drewN _) w5))) F2.lt).c10; replace hb5 := Lib.hid hb5)
              go_ret2
              exact ⟨by rw [HV.out]; rfl, by rw [hD]; exact HE2.out _ _ hb5.out⟩
            · have hd6 : decide (nn - f < m) = false := decide_eq_false hgt
              rw [if_neg (by simp; omega)] at HW
              by_cases hdk : dp = false ∧ kd = 4
              · have HV := Lib.hid (HW.trans (if_pos hdk))
                obtain ⟨hdp, hkd⟩ := hdk
                subst hdp hkd
                clear hsz
                clear hok HW
                go_wp2_with fail
                go_quiet (first | (go_at_call 100; first | with_reducible exact HQ.out _ _ | with_reducible exact HQ2.out _ _))
                go_wp2_with (go_at_call 73; (with_reducible refine (HBy.out _).mono ?_); rintro e w5 ⟨rfl, hb5⟩; have v10 := (F2.below (D := D) (B := w3.heap.size) (((⟨rfl, rfl, rfl, Nat.le_refl _, fun _ _ => rfl⟩ : Below w3.heap.size w3 (w3.drewN _)).trans (⟨hb5.os, hb5.tape, hb5.output, hb5.size, hb5.block⟩ : Below w3.heap.size (w3.drewN _) w5))) F2.lt).c10; replace hb5 := Lib.hid hb5)
                go_ret2
                exact ⟨by rw [HV.out]; rfl, by rw [hD]; exact HE2.out _ _ hb5.out⟩
              · have HV := Lib.hid (HW.trans (if_neg hdk))
                have hsz2 := hsz hdk
                clear hsz
                obtain ⟨fk, rfl⟩ : ∃ fk : Nat, f = (fk : Int) := ⟨f.toNat, by omega⟩
                obtain ⟨mk, rfl⟩ : ∃ mk : Nat, m = (mk : Int) := ⟨m.toNat, by omega⟩
                have hA1 : (fk : Int) + (mk : Int) ≤ (s.size : Int) := by omega
                have hA2 : (fk : Int) ≤ (fk : Int) + (mk : Int) := by omega
                have hA3 : fk + mk ≤ s.size := by omega
                have hA4 : (0 : Int) ≤ (fk : Int) + (mk : Int) := by omega
                clear hok HW
                cases dp with
                | true =>
                  go_wp2_with fail
                  go_quiet (first | (go_at_call 100; first | with_reducible exact HQ.out _ _ | with_reducible exact HQ2.out _ _))
                  go_wp2_with (go_at_call 73; (with_reducible refine (HBy.out _).mono ?_); rintro e w5 ⟨rfl, hb5⟩; have v10 := (F2.below (D := D) (B := w3.heap.size) (((⟨rfl, rfl, rfl, Nat.le_refl _, fun _ _ => rfl⟩ : Below w3.heap.size w3 (w3.drewN _)).trans (⟨hb5.os, hb5.tape, hb5.output, hb5.size, hb5.block⟩ : Below w3.heap.size (w3.drewN _) w5))) F2.lt).c10; replace hb5 := Lib.hid hb5)
                  go_ret2
                  exact ⟨by rw [HV.out]; rfl, by rw [hD]; exact HE2.out _ _ hb5.out⟩
                | false =>
                  have hd7 : (kd == 4) = false := beq_eq_false_iff_ne.2 (fun e => hdk ⟨rfl, e⟩)
                  clear hdk
                  go_wp2_with fail
                  go_quiet (first | (go_at_call 100; first | with_reducible exact HQ.out _ _ | with_reducible exact HQ2.out _ _))
                  go_wp2_with (go_at_call 73; (with_reducible refine (HBy.out _).mono ?_); rintro e w5 ⟨rfl, hb5⟩; have v10 := (F2.below (D := D) (B := w3.heap.size) (((⟨rfl, rfl, rfl, Nat.le_refl _, fun _ _ => rfl⟩ : Below w3.heap.size w3 (w3.drewN _)).trans (⟨hb5.os, hb5.tape, hb5.output, hb5.size, hb5.block⟩ : Below w3.heap.size (w3.drewN _) w5))) F2.lt).c10; replace hb5 := Lib.hid hb5)
                  go_ret2
                  exact ⟨by rw [HV.out]; rfl, by rw [hD]; exact HE2.out _ _ hb5.out⟩
  · rw [if_pos h3]
    have hd1 : ((n : Int) != 3) = true := bne_iff_ne.2 (by omega)
    clear h hS hz hl
    go_enter Tryz.func122, Tryz.ntmps122
    go_upto_region 1 with fail
    rw [← hwa]
    clear hwa
    go_wp2
    go_ret2
    exact ⟨rfl, HB.out _ (Below.refl _ _)⟩
end
end Go.Proofs.YtejmmjedognaaaaGreat

namespace Go.Proofs.YtejmmjedognaaaaGreat
open Go.RowKit
open St

/-- The object that a word leads to, if it lies within its region. -/
def outO (gs : List Frg) (x : Int) : Option (Int × List Int) :=
  if x % 8 = 5 then (if (atL gs (ldZ x)).length < 2 then none else some (-1, (atL gs (ldZ x)).take 2)) else boxO gs x

def bgl : List Int → List Nat
  | [] => []
  | w :: ws => (w % 4294967296).toNat :: (w / 4294967296).toNat :: bgl ws
def bgM (l : List Nat) : List Nat := if l.getLast? = some 0 then l.dropLast else l
def bgT (ws : List Int) : Tm := .mk 2 0 (decide (ws.getD 0 0 = 1)) (bgM (bgl (ws.drop 1))) 0 ⟨#[]⟩ []
def bgB (ws : List Int) : Bool := (decide (2 ≤ ws.length) && decide (ws.length ≤ 5)) && (decide (ws.getD 0 0 ≤ 1) && (bgT ws).mayB)
def flT (u : Int) : Tm := .mk 3 0 false [] u ⟨#[]⟩ []
def biT (s : ByteArray) : Tm := .mk 9 0 false [] 0 s []
def nuT (k n : Int) : Tm := .mk k n false [] 0 ⟨#[]⟩ []
def ndT (k : Int) (ts : List Tm) : Tm := .mk (if k = -1 then 8 else 6) 0 false [] 0 ⟨#[]⟩ ts
set_option maxRecDepth 100000 in
theorem bgl_len (ws : List Int) : (bgl ws).length = ws.length * 2 := by
  induction ws with
  | nil => rfl
  | cons a ws ih => simp only [bgl, List.length_cons, ih]; omega
set_option maxRecDepth 100000 in
theorem bgM_len (l : List Nat) : (bgM l).length ≤ l.length := by
  unfold bgM
  split
  · simp
  · omega

/-- Is an object formed? -/
def formO (gs : List Frg) (k : Int) (ws : List Int) : Bool :=
  if k = -1 then true else if k = 0 then decide (ws.length ≤ 8) else if k = 1 then bgB ws
  else if k = 2 then decide (ws.length = 1) && (cleanI (ws.getD 0 0) == ws.getD 0 0)
  else if k = 3 then (byR [] false 3 ws).2.2 else if k = 4 then (byR [] false 4 ws).2.2
  else if k = 5 then (subR gs [] false ws).2 else false
/-- The object that a word leads to, if it is formed. -/
def objO (gs : List Frg) (x : Int) : Option (Int × List Int) :=
  match outO gs x with
  | none => none
  | some (k, ws) => if formO gs k ws then some (k, ws) else none
/-- The bytes of an object, if they are to be had. -/
def txO (gs : List Frg) (S : List Slt) (k : Int) (ws : List Int) : ByteArray × Bool :=
  if k = 5 then subR gs S true ws else ((byR S true k ws).1, (byR S true k ws).2.2)
/-- The term of an object that holds no others. -/
def lfO (gs : List Frg) (S : List Slt) (k : Int) (ws : List Int) : Option Tm :=
  if k = 1 then some (bgT ws) else if k = 2 then some (flT (ws.getD 0 0)) else if (txO gs S k ws).2 then some (biT (txO gs S k ws).1) else none

def rdA (f : Int → Option Tm) : List Int → Option (List Tm)
  | [] => some []
  | x :: ws => match f x, rdA f ws with
    | some t, some ts => some (t :: ts)
    | _, _ => none
/-- The term that a word stands for, of so many levels at most. -/
def rdF (gs : List Frg) (S : List Slt) : Nat → Int → Option Tm
  | 0, _ => none
  | n + 1, x =>
    if plB x = false then none else if x % 8 = 0 then some (nuT 1 (ldZ x)) else if x % 8 = 1 then some (nuT 4 (ldZ x))
    else if x % 8 = 2 then some (nuT 5 (ldZ x)) else if x % 8 = 3 then some (nuT 7 0)
    else match objO gs x with
      | none => none
      | some (k, ws) => if k = -1 ∨ k = 0 then (rdA (rdF gs S n) ws).map (ndT k) else lfO gs S k ws

set_option maxRecDepth 100000 in
theorem rdA_mono {f g : Int → Option Tm} (h : ∀ x t, f x = some t → g x = some t) : ∀ {ws : List Int} {ts : List Tm}, rdA f ws = some ts → rdA g ws = some ts
  | [], ts, e => e
  | x :: ws, ts, e => by
    unfold rdA at e ⊢
    cases h1 : f x with
    | none => rw [h1] at e; simp at e
    | some t =>
      cases h2 : rdA f ws with
      | none => rw [h1, h2] at e; simp at e
      | some us =>
        rw [h1, h2] at e
        rw [h x t h1, rdA_mono h h2]
        exact e
set_option maxRecDepth 100000 in
theorem rdF_step {gs : List Frg} {S : List Slt} : ∀ {n : Nat} {x : Int} {t : Tm}, rdF gs S n x = some t → rdF gs S (n + 1) x = some t
  | 0, x, t, e => by simp [rdF] at e
  | n + 1, x, t, e => by
    unfold rdF at e ⊢
    by_cases h1 : plB x = false
    · rw [if_pos h1] at e; cases e
    · rw [if_neg h1] at e ⊢
      by_cases h2 : x % 8 = 0
      · rw [if_pos h2] at e ⊢; exact e
      · rw [if_neg h2] at e ⊢
        by_cases h3 : x % 8 = 1
        · rw [if_pos h3] at e ⊢; exact e
        · rw [if_neg h3] at e ⊢
          by_cases h4 : x % 8 = 2
          · rw [if_pos h4] at e ⊢; exact e
          · rw [if_neg h4] at e ⊢
            by_cases h5 : x % 8 = 3
            · rw [if_pos h5] at e ⊢; exact e
            · rw [if_neg h5] at e ⊢
              cases h6 : objO gs x with
              | none => rw [h6] at e; cases e
              | some p =>
                obtain ⟨k, ws⟩ := p
                rw [h6] at e
                simp only at e ⊢
                by_cases hk : k = -1 ∨ k = 0
                · rw [if_pos hk] at e ⊢
                  cases h7 : rdA (rdF gs S n) ws with
                  | none => rw [h7] at e; cases e
                  | some ts =>
                    rw [h7] at e
                    rw [rdA_mono (fun x t h => rdF_step h) h7]
                    exact e
                · rw [if_neg hk] at e ⊢; exact e
set_option maxRecDepth 100000 in
theorem rdF_mono {gs : List Frg} {S : List Slt} {n m : Nat} {x : Int} {t : Tm} (h : rdF gs S n x = some t) (hm : n ≤ m) : rdF gs S m x = some t := by
  induction m with
  | zero => rw [show n = 0 by omega] at h; exact h
  | succ m ih =>
    by_cases e : n = m + 1
    · rw [← e]; exact h
    · exact rdF_step (ih (by omega))

/-- What a word stands for; what words stand for. -/
def Rd (gs : List Frg) (S : List Slt) (x : Int) (t : Tm) : Prop := ∃ n, rdF gs S n x = some t
def RdA (gs : List Frg) (S : List Slt) (ws : List Int) (ts : List Tm) : Prop := ∃ n, rdA (rdF gs S n) ws = some ts
section
variable {gs : List Frg} {S : List Slt} {x : Int} {t t' : Tm} {ws : List Int} {ts : List Tm}
set_option maxRecDepth 100000 in
theorem Rd.det (h : Rd gs S x t) (g : Rd gs S x t') : t = t' := by
  obtain ⟨n, h⟩ := h
  obtain ⟨m, g⟩ := g
  have h1 := rdF_mono h (Nat.le_max_left n m)
  have g1 := rdF_mono g (Nat.le_max_right n m)
  exact Option.some.inj (h1.symm.trans g1)
set_option maxRecDepth 100000 in
theorem RdA.nil : RdA gs S [] [] := ⟨0, rfl⟩
set_option maxRecDepth 100000 in
theorem RdA.cons (h : Rd gs S x t) (g : RdA gs S ws ts) : RdA gs S (x :: ws) (t :: ts) := by
  obtain ⟨n, h⟩ := h
  obtain ⟨m, g⟩ := g
  refine ⟨max n m, ?_⟩
  unfold rdA
  rw [rdF_mono h (Nat.le_max_left n m), rdA_mono (fun x t e => rdF_mono e (Nat.le_max_right n m)) g]
set_option maxRecDepth 100000 in
theorem RdA.unc {us : List Tm} (h : RdA gs S (x :: ws) us) : ∃ t ts, us = t :: ts ∧ Rd gs S x t ∧ RdA gs S ws ts := by
  obtain ⟨n, h⟩ := h
  unfold rdA at h
  cases h1 : rdF gs S n x with
  | none => rw [h1] at h; simp at h
  | some t =>
    cases h2 : rdA (rdF gs S n) ws with
    | none => rw [h1, h2] at h; simp at h
    | some ts =>
      rw [h1, h2] at h
      exact ⟨t, ts, (Option.some.inj h).symm, ⟨n, h1⟩, ⟨n, h2⟩⟩
set_option maxRecDepth 100000 in
theorem RdA.len (h : RdA gs S ws ts) : ts.length = ws.length := by
  induction ws generalizing ts with
  | nil =>
    obtain ⟨n, h⟩ := h
    unfold rdA at h
    have := Option.some.inj h
    subst this
    rfl
  | cons x ws ih =>
    obtain ⟨t, us, rfl, _, h2⟩ := h.unc
    simp [ih h2]
set_option maxRecDepth 100000 in
theorem RdA.get (h : RdA gs S ws ts) {i : Nat} (hi : i < ws.length) : ∃ t, ts[i]? = some t ∧ Rd gs S (ws.getD i 0) t := by
  induction ws generalizing ts i with
  | nil => simp at hi
  | cons x ws ih =>
    obtain ⟨t, us, rfl, h1, h2⟩ := h.unc
    cases i with
    | zero => exact ⟨t, rfl, h1⟩
    | succ i => simpa using ih h2 (i := i) (by simpa using hi)
set_option maxRecDepth 100000 in
theorem RdA.take (h : RdA gs S ws ts) (i : Nat) : RdA gs S (ws.take i) (ts.take i) := by
  induction ws generalizing ts i with
  | nil =>
    have := h.len
    have e : ts = [] := List.eq_nil_of_length_eq_zero (by simpa using this)
    subst e
    simpa using RdA.nil
  | cons x ws ih =>
    obtain ⟨t, us, rfl, h1, h2⟩ := h.unc
    cases i with
    | zero => exact RdA.nil
    | succ i => exact RdA.cons h1 (ih h2 i)
set_option maxRecDepth 100000 in
theorem RdA.app {us : List Tm} {vs : List Int} (h : RdA gs S ws ts) (g : RdA gs S vs us) : RdA gs S (ws ++ vs) (ts ++ us) := by
  induction ws generalizing ts with
  | nil =>
    have := h.len
    have e : ts = [] := List.eq_nil_of_length_eq_zero (by simpa using this)
    subst e
    exact g
  | cons x ws ih =>
    obtain ⟨t, us, rfl, h1, h2⟩ := h.unc
    exact RdA.cons h1 (ih h2)
set_option maxRecDepth 100000 in
theorem RdA.det {us : List Tm} (h : RdA gs S ws ts) (g : RdA gs S ws us) : ts = us := by
  induction ws generalizing ts us with
  | nil =>
    have h1 := h.len
    have h2 := g.len
    have e1 : ts = [] := List.eq_nil_of_length_eq_zero (by simpa using h1)
    have e2 : us = [] := List.eq_nil_of_length_eq_zero (by simpa using h2)
    rw [e1, e2]
  | cons x ws ih =>
    obtain ⟨t, ts', rfl, h1, h2⟩ := h.unc
    obtain ⟨u, us', rfl, g1, g2⟩ := g.unc
    rw [h1.det g1, ih h2 g2]
set_option maxRecDepth 100000 in
theorem take_gd {ws : List Int} {i : Nat} (h : i < ws.length) : ws.take (i + 1) = ws.take i ++ [ws.getD i 0] := by
  rw [List.take_add_one]
  simp [h]
set_option maxRecDepth 100000 in
theorem RdA.snoc {i : Nat} (h : RdA gs S (ws.take i) ts) (hi : i < ws.length) (g : Rd gs S (ws.getD i 0) t) : RdA gs S (ws.take (i + 1)) (ts ++ [t]) := by
  rw [take_gd hi]
  exact h.app (RdA.cons g RdA.nil)

set_option maxRecDepth 100000 in
/-- Plain words that lead nowhere. -/
theorem Rd.plain (h : Rd gs S x t) : plB x = true := by
  obtain ⟨n, h⟩ := h
  cases n with
  | zero => simp [rdF] at h
  | succ n =>
    unfold rdF at h
    by_cases h1 : plB x = false
    · rw [if_pos h1] at h; cases h
    · simpa using h1
def smT (x : Int) : Tm := if x % 8 = 0 then nuT 1 (ldZ x) else if x % 8 = 1 then nuT 4 (ldZ x) else if x % 8 = 2 then nuT 5 (ldZ x) else nuT 7 0
set_option maxRecDepth 100000 in
theorem plB_lt (h : plB x = true) : x % 8 ≤ 5 := by
  simp only [plB, Bool.and_eq_true, decide_eq_true_eq] at h
  exact h.1
set_option maxRecDepth 100000 in
theorem rd_small (hp : plB x = true) (h4 : x % 8 ≠ 4) (h5 : x % 8 ≠ 5) : Rd gs S x (smT x) := by
  refine ⟨1, ?_⟩
  have := plB_lt hp
  unfold rdF smT
  rw [if_neg (by simp [hp])]
  repeat' split
  all_goals first | rfl | omega
set_option maxRecDepth 100000 in
theorem smT_wt (x : Int) : (smT x).wt = 1 ∧ (smT x).Ok := by
  unfold smT nuT
  repeat' split
  all_goals simp [Tm.wt, Tm.Ok, Tm.Oks, ByteArray.size]
set_option maxRecDepth 100000 in
theorem rd_node {k : Int} (hp : plB x = true) (h4 : x % 8 = 4 ∨ x % 8 = 5) (ho : objO gs x = some (k, ws)) (hk : k = -1 ∨ k = 0) : Rd gs S x t ↔ ∃ ts, t = ndT k ts ∧ RdA gs S ws ts := by
  have key : ∀ n, rdF gs S (n + 1) x = (rdA (rdF gs S n) ws).map (ndT k) := fun n => by
    show (if plB x = false then none else if x % 8 = 0 then some (nuT 1 (ldZ x)) else if x % 8 = 1 then some (nuT 4 (ldZ x)) else if x % 8 = 2 then some (nuT 5 (ldZ x)) else if x % 8 = 3 then some (nuT 7 0) else match objO gs x with
      | none => none
      | some (k, ws) => if k = -1 ∨ k = 0 then (rdA (rdF gs S n) ws).map (ndT k) else lfO gs S k ws) = _
    rw [if_neg (by simp [hp]), if_neg (by omega), if_neg (by omega), if_neg (by omega), if_neg (by omega), ho]
    exact if_pos hk
  constructor
  · rintro ⟨n, h⟩
    cases n with
    | zero => simp [rdF] at h
    | succ n =>
      rw [key] at h
      cases h7 : rdA (rdF gs S n) ws with
      | none => rw [h7] at h; cases h
      | some ts =>
        rw [h7] at h
        exact ⟨ts, (Option.some.inj h).symm, n, h7⟩
  · rintro ⟨ts, rfl, n, h⟩
    exact ⟨n + 1, by rw [key, h]; rfl⟩
set_option maxRecDepth 100000 in
theorem rd_leaf {k : Int} (hp : plB x = true) (h4 : x % 8 = 4 ∨ x % 8 = 5) (ho : objO gs x = some (k, ws)) (hk : ¬ (k = -1 ∨ k = 0)) : Rd gs S x t ↔ lfO gs S k ws = some t := by
  have key : ∀ n, rdF gs S (n + 1) x = lfO gs S k ws := fun n => by
    show (if plB x = false then none else if x % 8 = 0 then some (nuT 1 (ldZ x)) else if x % 8 = 1 then some (nuT 4 (ldZ x)) else if x % 8 = 2 then some (nuT 5 (ldZ x)) else if x % 8 = 3 then some (nuT 7 0) else match objO gs x with
      | none => none
      | some (k, ws) => if k = -1 ∨ k = 0 then (rdA (rdF gs S n) ws).map (ndT k) else lfO gs S k ws) = _
    rw [if_neg (by simp [hp]), if_neg (by omega), if_neg (by omega), if_neg (by omega), if_neg (by omega), ho]
    exact if_neg hk
  constructor
  · rintro ⟨n, h⟩
    cases n with
    | zero => simp [rdF] at h
    | succ n => rw [key] at h; exact h
  · intro h
    exact ⟨1, by rw [key]; exact h⟩
set_option maxRecDepth 100000 in
theorem rd_none (h4 : x % 8 = 4 ∨ x % 8 = 5) (ho : objO gs x = none) : ¬ Rd gs S x t := by
  rintro ⟨n, h⟩
  cases n with
  | zero => simp [rdF] at h
  | succ n =>
    have key : rdF gs S (n + 1) x = if plB x = false then none else none := by
      show (if plB x = false then none else if x % 8 = 0 then some (nuT 1 (ldZ x)) else if x % 8 = 1 then some (nuT 4 (ldZ x)) else if x % 8 = 2 then some (nuT 5 (ldZ x)) else if x % 8 = 3 then some (nuT 7 0) else match objO gs x with
        | none => none
        | some (k, ws) => if k = -1 ∨ k = 0 then (rdA (rdF gs S n) ws).map (ndT k) else lfO gs S k ws) = _
      rw [if_neg (c := x % 8 = 0) (by omega), if_neg (c := x % 8 = 1) (by omega), if_neg (c := x % 8 = 2) (by omega), if_neg (c := x % 8 = 3) (by omega), ho]
    rw [key] at h
    split at h <;> cases h
set_option maxRecDepth 100000 in
theorem ndT_wt (k : Int) (ts : List Tm) : (ndT k ts).wt = 1 + Tm.wts ts := by
  unfold ndT
  by_cases h : k = -1
  · rw [if_pos h]; simp [Tm.wt]
  · rw [if_neg h]; simp [Tm.wt]
end
end Go.Proofs.YtejmmjedognaaaaGreat
