/-
  PACKAGE look: a memory; outline.
  PACKAGE look: bytesIn, isBytes.
-/
import Derived.Test.YtejmmjedognaaaaGreatMv23
namespace Go.Proofs.YtejmmjedognaaaaGreat
open Go.RowKit
open St

/-- An object in a variable. -/
structure Ob (w : World) (D : Nat) (k : Int) (A : Option Addr) (n c : Nat) : Prop where
  blk : w.heap[D]? = some (.cells #[.int .i64 k, .slice A n c] 93 (0, 0))
namespace Ob
variable {w w' : World} {D : Nat} {k : Int} {A : Option Addr} {n c : Nat}
set_option maxRecDepth 100000 in
theorem lt (h : Ob w D k A n c) : D < w.heap.size := (Array.getElem?_eq_some_iff.1 h.blk).1
set_option maxRecDepth 100000 in
theorem below (h : Ob w D k A n c) {B : Nat} (hb : Below B w w') (hB : D < B) : Ob w' D k A n c := ⟨(hb.block D hB).trans h.blk⟩
set_option maxRecDepth 100000 in
theorem drewN (h : Ob w D k A n c) (q : Nat) : Ob (w.drewN q) D k A n c := ⟨h.blk⟩
set_option maxRecDepth 100000 in
theorem c0 (h : Ob w D k A n c) : w.cell? ⟨D, 0, none⟩ = some (.int .i64 k) := (cell_of_row w D 0 _ _ (0, 0) h.blk).trans rfl
set_option maxRecDepth 100000 in
theorem c1 (h : Ob w D k A n c) : w.cell? ⟨D, 1, none⟩ = some (.slice A n c) := (cell_of_row w D 1 _ _ (0, 0) h.blk).trans rfl
set_option maxRecDepth 100000 in
theorem f0 (h : Ob w D k A n c) : w.frozen? ⟨D, 0, none⟩ = false := frozen_of_row w D 0 _ _ h.blk
set_option maxRecDepth 100000 in
theorem f1 (h : Ob w D k A n c) : w.frozen? ⟨D, 1, none⟩ = false := frozen_of_row w D 1 _ _ h.blk
set_option maxRecDepth 100000 in
theorem new (w : World) (k : Int) (A : Option Addr) (n c : Nat) : Ob (w.alloc (.cells #[.int .i64 k, .slice A n c] 93)) w.heap.size k A n c := ⟨heap_alloc_new w _⟩
set_option maxRecDepth 100000 in
theorem set (h : Ob w D k A n c) (k' : Int) (A' : Option Addr) (n' c' : Nat) : Ob ((w.setCell ⟨D, 0, none⟩ (.int .i64 k')).setCell ⟨D, 1, none⟩ (.slice A' n' c')) D k' A' n' c' := by
  have h2 : (w.setCell ⟨D, 0, none⟩ (.int .i64 k')).heap[D]? = some (.cells #[.int .i64 k', .slice A n c] 93 (0, 0)) := by rw [heap_setCell_same w D 0 _ _ _ h.blk]; simp
  exact ⟨by rw [heap_setCell_same _ D 1 _ _ _ h2]; simp⟩
end Ob
set_option maxRecDepth 100000 in
theorem below_set2 {B : Nat} {a w : World} (h : Below B a w) {D : Nat} (hD : B ≤ D) (u v : Value) : Below B a ((w.setCell ⟨D, 0, none⟩ u).setCell ⟨D, 1, none⟩ v) := (h.setCell (p := ⟨D, 0, none⟩) hD u).setCell (p := ⟨D, 1, none⟩) hD v

/-- What outline answers. -/
def OuP (w : World) (o : Option (Int × List Int)) (e : Ending) (w' : World) : Prop :=
  ((o = none ∧ e = .returned (.tuple #[.agg #[.int .i64 0, .slice none 0 0], .bool false])) ∨
    ∃ k ws A n c, o = some (k, ws) ∧ e = .returned (.tuple #[.agg #[.int .i64 k, .slice A n c], .bool true]) ∧ Zs .u64 w' A n c ws) ∧ Below w.heap.size w w'
set_option maxRecDepth 100000 in
theorem meth_whole (k : Nat) (v : Value) (w : World) : (method (k + 1) 63 v "beehive/look.from").run Tryz.prog w = .ok (176, v) w := by kernel_rfl
set_option maxRecDepth 100000 in
theorem nil_whole (k : Nat) (v : Value) (w : World) : (nilAhead (k + 1) 63 v "beehive/look.from").run Tryz.prog w = .ok (some false) w := by kernel_rfl
set_option maxRecDepth 100000 in
theorem nil_apart (k : Nat) (v : Value) (w : World) : (nilAhead (k + 1) 74 v "beehive/look.from").run Tryz.prog w = .ok (some false) w := by kernel_rfl
set_option maxRecDepth 100000 in
theorem meth_apart (k : Nat) (v : Value) (w : World) : (method (k + 1) 74 v "beehive/look.from").run Tryz.prog w = .ok (177, v) w := by kernel_rfl

set_option maxRecDepth 100000 in
theorem zs_set2 {q : IntKind} {w : World} {A : Option Addr} {n c : Nat} {zs : List Int} (h : Zs q w A n c zs) {D : Nat} {k : Int} {B : Option Addr} {m e : Nat} (h0 : w.cell? ⟨D, 0, none⟩ = some (.int .i64 k)) (h1 : w.cell? ⟨D, 1, none⟩ = some (.slice B m e)) (hq : q = .u64 := by rfl) (u v : Value) :
    Zs q ((w.setCell ⟨D, 0, none⟩ u).setCell ⟨D, 1, none⟩ v) A n c zs := by
  subst hq
  refine ⟨h.len, h.nc, h.cm, h.wf, fun hn => ?_⟩
  obtain ⟨b, o, e, hlt, hc⟩ := h.el hn
  refine ⟨b, o, e, by simpa using hlt, fun j hj => ?_⟩
  rw [World.cell?_setCell_other _ _ ⟨b, o + j, none⟩ v (fun e => by
    have h2 := hc j hj
    rw [← e, h1] at h2
    cases h2), World.cell?_setCell_other _ _ ⟨b, o + j, none⟩ u (fun e => by
    have h2 := hc j hj
    rw [← e, h0] at h2
    cases h2)]
  exact hc j hj

set_option maxRecDepth 100000 in
set_option maxRecDepth 100000 in
set_option maxHeartbeats 8000000 in
theorem outlineW {w : World} {r : DR} {d : Dmp} (h : DV w r d) (hm : r.fm ≤ 1000) (x : Int) (hx : Wd x) :
    Calls Tryz.prog 84 #[.iface 63 (.agg #[.int .i64 r.y.at_, .slice r.y.A r.y.n r.y.c, .int .i64 r.o.at_, .slice r.o.A r.o.n r.o.c, .int .i64 r.size, .int .i64 r.mark, .slice r.F r.fm r.fc, .slice r.R r.rm r.rc, .slice r.H r.hm r.hc]), .int .u64 x] w (OuP w (outO (d.y :: d.o :: d.fs) x)) := by
  obtain ⟨wa, hwa⟩ : ∃ wa, wa = w.alloc (.cells #[.int .i64 0, .slice none 0 0] 93) := ⟨_, rfl⟩
  have hba : Below w.heap.size w wa := by rw [hwa]; exact (Below.refl _ w).alloc (Nat.le_refl _) _
  have ob : Ob wa w.heap.size 0 none 0 0 := by rw [hwa]; exact Ob.new _ _ _ _ _
  have HF := Lib.hid (fromW_any ((h.below hba).drewN 1) hm (ldZ x) (ldZ_in hx))
  have HB := Lib.hid hba
  have HT := Lib.hid (fun w => tag_any x hx w)
  have HL := Lib.hid (fun w => load_any x hx w)
  have qm := fun k v w => meth_whole k v w
  have qn := fun k v w => nil_whole k v w
  have HO := Lib.hid ob
  clear h hba hx ob
  go_enter Tryz.func84, Tryz.ntmps84
  go_upto_region 1 with fail
  rw [← hwa]
  clear hwa
  generalize hD : w.heap.size = D at *
  replace hD := Lib.hid hD
  generalize hgs : d.y :: d.o :: d.fs = gs at *
  clear hgs
  by_cases h5 : x % 8 = 5
  · have hd1 : (x % 8 == 5) = true := by rw [h5]; rfl
    go_upto_region 3 with (go_at_call 52; (with_reducible refine (HT.out _).mono ?_); rintro e w4 ⟨rfl, rfl⟩)
    go_region_held3 (fun _ => True) (trivial) (first
      | (go_at_call 54; refine (HL.out _).mono ?_; rintro e w2 ⟨rfl, rfl⟩)
      | (go_at_call 176; refine HF.out.mono ?_; rintro e w3 ⟨A3, n3, c3, rfl, hz3, hb3⟩))
    all_goals
      clear hd1
      have hl3 := hz3.len
      have hnc := hz3.nc
      have hcm : c3 ≤ 9223372036854775807 := hz3.cm
      have ob3 := (HO.out.drewN 1).below hb3 HO.out.lt
      have z0 := ob3.c0
      have z1 := ob3.c1
      have g0 := ob3.f0
      have g1 := ob3.f1
      have HB3 : Hid (Below D w w3) := Lib.hid (by
        have h9 : Below D w (wa.drewN 1) := below_drewN HB.out 1
        exact h9.trans (hb3.mono (by have := HB.out.size; rw [hD.out] at this; exact this)))
      by_cases h2 : n3 < 2
      · have hd2 : decide ((n3 : Int) < 2) = true := decide_eq_true (by omega)
        have HN : Hid (outO gs x = none) := Lib.hid (by unfold outO; rw [if_pos h5, if_pos (by omega)])
        clear h5 h2 hz3 hb3 HF HO
        go_wp2
        have zz := ob3.set 0 none 0 0
        have z0 := zz.c0
        have z1 := zz.c1
        exact bodyPost_ret (v := .tuple #[.agg #[.int .i64 0, .slice none 0 0], .bool false]) (by simp [results, Tryz.results84, go_sem, z0, z1]) rfl ⟨.inl ⟨HN.out, rfl⟩, by rw [hD.out]; exact below_set2 HB3.out (Nat.le_refl _) _ _⟩
      · have hd2 : decide ((n3 : Int) < 2) = false := decide_eq_false (by omega)
        have HN : Hid (outO gs x = some (-1, (atL gs (ldZ x)).take 2)) := Lib.hid (by unfold outO; rw [if_pos h5, if_neg (by omega)])
        obtain ⟨b, o, hA, _⟩ := hz3.some (by omega)
        subst hA
        have hpart := hz3.part (lo := 0) (m := 2) (o' := o) (by omega) (.inr rfl)
        rw [List.drop_zero, Nat.sub_zero] at hpart
        have HPt := Lib.hid hpart
        have hc2 : (2 : Int) ≤ (c3 : Int) := by omega
        clear h5 h2 hz3 hb3 HF HO hpart
        go_wp2
        have zz := ob3.set (-1) (some ⟨b, o, none⟩) 2 c3
        have y0 := zz.c0
        have y1 := zz.c1
        refine bodyPost_ret (v := .tuple #[.agg #[.int .i64 (-1), .slice (some ⟨b, o, none⟩) 2 c3], .bool true]) (by simp [results, Tryz.results84, go_sem, y0, y1]) rfl ⟨.inr ⟨_, _, _, _, _, HN.out, rfl, ?_⟩, by rw [hD.out]; exact below_set2 HB3.out (Nat.le_refl _) _ _⟩
        exact zs_set2 HPt.out z0 z1 rfl _ _
  · have hd1 : (x % 8 == 5) = false := beq_eq_false_iff_ne.2 h5
    by_cases h4 : x % 8 = 4
    · have hd3 : (x % 8 == 4) = true := by rw [h4]; rfl
      go_upto_region 8 with (go_at_call 52; (with_reducible refine (HT.out _).mono ?_); rintro e w4 ⟨rfl, rfl⟩)
      go_region_held3 (fun _ => True) (trivial) (first
        | (go_at_call 54; refine (HL.out _).mono ?_; rintro e w2 ⟨rfl, rfl⟩)
        | (go_at_call 176; refine HF.out.mono ?_; rintro e w3 ⟨A3, n3, c3, rfl, hz3, hb3⟩))
      all_goals
        clear hd1 hd3
        have hl3 := hz3.len
        have hnc := hz3.nc
        have hcm : c3 ≤ 9223372036854775807 := hz3.cm
        have hwf := Lib.hid hz3.wf
        have ob3 := (HO.out.drewN 1).below hb3 HO.out.lt
        have HB3 : Hid (Below D w w3) := Lib.hid (by
          have h9 : Below D w (wa.drewN 1) := below_drewN HB.out 1
          exact h9.trans (hb3.mono (by have := HB.out.size; rw [hD.out] at this; exact this)))
        obtain ⟨zs, hzs⟩ : ∃ zs, zs = atL gs (ldZ x) := ⟨_, rfl⟩
        rw [← hzs] at hl3 hz3 hwf
        have HE : Hid (outO gs x = boxZ x zs) := Lib.hid (by unfold outO boxO; rw [if_neg h5, ← hzs])
        clear hzs HF HB HO
        cases zs with
        | nil =>
          have hn : n3 = 0 := by rw [← hl3]; rfl
          subst hn
          have HN : Hid (outO gs x = none) := Lib.hid (by rw [HE.out]; rfl)
          have z0 := ob3.c0
          have z1 := ob3.c1
          have g0 := ob3.f0
          have g1 := ob3.f1
          clear h5 h4 hz3 hb3 HE
          go_wp2
          have zz := ob3.set 0 none 0 0
          have z0 := zz.c0
          have z1 := zz.c1
          exact bodyPost_ret (v := .tuple #[.agg #[.int .i64 0, .slice none 0 0], .bool false]) (by simp [results, Tryz.results84, go_sem, z0, z1]) rfl ⟨.inl ⟨HN.out, rfl⟩, by rw [hD.out]; exact below_set2 HB3.out (Nat.le_refl _) _ _⟩
        | cons h t =>
          have hn : n3 = t.length + 1 := by rw [← hl3]; rfl
          obtain ⟨b, o, hA, _⟩ := hz3.some (by omega)
          subst hA
          have y0 : w3.cell? ⟨b, o, none⟩ = some (.int .u64 h) := by simpa using hz3.at_ (j := 0) (by omega)
          have hh := wf_u (hwf.out h (by simp))
          have hd2 : ((n3 : Int) == 0) = false := beq_eq_false_iff_ne.2 (by omega)
          have hn0 : (0 : Int) < (n3 : Int) := by omega
          have hP := parts_any h hh w3
          by_cases hp : ptB h = true
          · rw [hp] at hP
            simp only [if_true] at hP
            have HP := Lib.hid hP
            have hsz : 0 ≤ h / 64 ∧ h / 64 ≤ 1048576 := by
              have := hp
              simp only [ptB, hdB, Bool.and_eq_true, decide_eq_true_eq] at this
              omega
            have hkk : 0 ≤ h / 8 % 8 ∧ h / 8 % 8 ≤ 5 := by
              have := hp
              simp only [ptB, hdB, Bool.and_eq_true, decide_eq_true_eq] at this
              omega
            obtain ⟨m, hm2⟩ : ∃ m : Nat, h / 64 = (m : Int) := ⟨(h / 64).toNat, by omega⟩
            by_cases hs : m ≤ t.length
            · have HS := Lib.hid (show outO gs x = some (h / 8 % 8, t.take m) by
                rw [HE.out]
                show (if x % 8 = 4 ∧ ptB h = true ∧ h / 64 ≤ (t.length : Int) then some (h / 8 % 8, t.take (h / 64).toNat) else none) = _
                rw [if_pos ⟨h4, hp, by omega⟩, hm2]
                rfl)
              rw [hm2] at HP hsz
              generalize h / 8 % 8 = kd at *
              have hd5 : decide ((n3 : Int) ≤ (m : Int)) = false := decide_eq_false (by omega)
              have hm4 : (m : Int) ≤ 1048576 := hsz.2
              have hA1 : (1 : Int) ≤ 1 + (m : Int) := by omega
              have hA2 : 1 + (m : Int) ≤ (c3 : Int) := by omega
              have hA3 : 0 ≤ 1 + (m : Int) := by omega
              have hm5 : 1 + m - 1 = m := by omega
              have HOb : Hid (∀ w', Below w3.heap.size w3 w' → Ob w' D 0 none 0 0) := Lib.hid (fun w' hb => ob3.below hb ob3.lt)
              have key : ∀ o', (m = 0 ∨ o' = o + 1) → Zs .u64 w3 (some ⟨b, o', none⟩) m (c3 - 1) (t.take m) := fun o' ho' => by
                have hpart := hz3.part (lo := 1) (m := m) (o' := o') (by omega) ho'
                simpa using hpart
              by_cases hc1 : c3 = 1
              · have HPt := Lib.hid (key o (.inl (by omega)))
                subst hc1
                clear hz3 key HE hP hp h4 h5 hwf hl3 hb3 ob3
                go_wp2_with (go_at_call 97; (with_reducible refine HP.out.mono ?_); rintro e w5 ⟨rfl, hb5⟩; have ob5 := HOb.out _ hb5; have z0 := ob5.c0; have z1 := ob5.c1; have g0 := ob5.f0; have g1 := ob5.f1; have HPt5 := Lib.hid (HPt.out.below hb5); have HB5 := Lib.hid (HB3.out.trans (hb5.mono (by have h9 := HB3.out.size; rw [hD.out] at h9; exact h9))); clear hb5)
                have zz := ob5.set kd (some ⟨b, o, none⟩) m 0
                have z2 := zz.c0
                have z3 := zz.c1
                refine bodyPost_ret (v := .tuple #[.agg #[.int .i64 kd, .slice (some ⟨b, o, none⟩) m 0], .bool true]) (by simp [results, Tryz.results84, go_sem, z2, z3]) rfl ⟨.inr ⟨_, _, _, _, _, HS.out, rfl, ?_⟩, by rw [hD.out]; exact below_set2 HB5.out (Nat.le_refl _) _ _⟩
                exact zs_set2 HPt5.out z0 z1 rfl _ _
              · have HPt := Lib.hid (key (o + 1) (.inr rfl))
                clear hz3 key HE hP hp h4 h5 hwf hl3 hb3 ob3
                go_wp2_with (go_at_call 97; (with_reducible refine HP.out.mono ?_); rintro e w5 ⟨rfl, hb5⟩; have ob5 := HOb.out _ hb5; have z0 := ob5.c0; have z1 := ob5.c1; have g0 := ob5.f0; have g1 := ob5.f1; have HPt5 := Lib.hid (HPt.out.below hb5); have HB5 := Lib.hid (HB3.out.trans (hb5.mono (by have h9 := HB3.out.size; rw [hD.out] at h9; exact h9))); clear hb5)
                have zz := ob5.set kd (some ⟨b, o + 1, none⟩) m (c3 - 1)
                have z2 := zz.c0
                have z3 := zz.c1
                refine bodyPost_ret (v := .tuple #[.agg #[.int .i64 kd, .slice (some ⟨b, o + 1, none⟩) m (c3 - 1)], .bool true]) (by simp [results, Tryz.results84, go_sem, z2, z3]) rfl ⟨.inr ⟨_, _, _, _, _, HS.out, rfl, ?_⟩, by rw [hD.out]; exact below_set2 HB5.out (Nat.le_refl _) _ _⟩
                exact zs_set2 HPt5.out z0 z1 rfl _ _
            · have HN := Lib.hid (show outO gs x = none by
                rw [HE.out]
                exact if_neg (fun e => by omega))
              rw [hm2] at HP hsz
              generalize h / 8 % 8 = kd at *
              have hd5 : decide ((n3 : Int) ≤ (m : Int)) = true := decide_eq_true (by omega)
              have hm4 : (m : Int) ≤ 1048576 := hsz.2
              have HOb : Hid (∀ w', Below w3.heap.size w3 w' → Ob w' D 0 none 0 0) := Lib.hid (fun w' hb => ob3.below hb ob3.lt)
              clear hz3 HE hP hp h4 h5 hwf hl3 hb3 ob3
              go_wp2_with (go_at_call 97; (with_reducible refine HP.out.mono ?_); rintro e w5 ⟨rfl, hb5⟩; have ob5 := HOb.out _ hb5; have z0 := ob5.c0; have z1 := ob5.c1; have g0 := ob5.f0; have g1 := ob5.f1; have HB5 := Lib.hid (HB3.out.trans (hb5.mono (by have h9 := HB3.out.size; rw [hD.out] at h9; exact h9))); clear hb5)
              have zz := ob5.set 0 none 0 0
              have z2 := zz.c0
              have z3 := zz.c1
              exact bodyPost_ret (v := .tuple #[.agg #[.int .i64 0, .slice none 0 0], .bool false]) (by simp [results, Tryz.results84, go_sem, z2, z3]) rfl ⟨.inl ⟨HN.out, rfl⟩, by rw [hD.out]; exact below_set2 HB5.out (Nat.le_refl _) _ _⟩
          · have hp2 : ptB h = false := by simpa using hp
            rw [hp2] at hP
            have HP := Lib.hid hP
            have HN := Lib.hid (show outO gs x = none by
              rw [HE.out]
              exact if_neg (fun e => hp e.2.1))
            have HOb : Hid (∀ w', Below w3.heap.size w3 w' → Ob w' D 0 none 0 0) := Lib.hid (fun w' hb => ob3.below hb ob3.lt)
            clear hz3 HE hP hp h4 h5 hwf hl3 hb3 ob3 hp2
            go_wp2_with (go_at_call 97; (with_reducible refine HP.out.mono ?_); rintro e w5 ⟨rfl, hb5⟩; have ob5 := HOb.out _ hb5; have z0 := ob5.c0; have z1 := ob5.c1; have g0 := ob5.f0; have g1 := ob5.f1; have HB5 := Lib.hid (HB3.out.trans (hb5.mono (by have h9 := HB3.out.size; rw [hD.out] at h9; exact h9))); clear hb5)
            have zz := ob5.set 0 none 0 0
            have z2 := zz.c0
            have z3 := zz.c1
            exact bodyPost_ret (v := .tuple #[.agg #[.int .i64 0, .slice none 0 0], .bool false]) (by simp [results, Tryz.results84, go_sem, z2, z3]) rfl ⟨.inl ⟨HN.out, rfl⟩, by rw [hD.out]; exact below_set2 HB5.out (Nat.le_refl _) _ _⟩
    · have hd3 : (x % 8 == 4) = false := beq_eq_false_iff_ne.2 h4
      have HN : Hid (outO gs x = none) := Lib.hid (by
        unfold outO boxO
        rw [if_neg h5]
        cases atL gs (ldZ x) with
        | nil => rfl
        | cons h t => exact if_neg (fun e => h4 e.1))
      have z0 := HO.out.c0
      have z1 := HO.out.c1
      have g0 := HO.out.f0
      have g1 := HO.out.f1
      clear h5 h4 HF
      go_wp2_with (go_at_call 52; (with_reducible refine (HT.out _).mono ?_); rintro e w4 ⟨rfl, rfl⟩)
      have zz := HO.out.set 0 none 0 0
      have z2 := zz.c0
      have z3 := zz.c1
      exact bodyPost_ret (v := .tuple #[.agg #[.int .i64 0, .slice none 0 0], .bool false]) (by simp [results, Tryz.results84, go_sem, z2, z3]) rfl ⟨.inl ⟨HN.out, rfl⟩, by rw [hD.out]; exact below_set2 HB.out (Nat.le_refl _) _ _⟩

set_option maxRecDepth 100000 in
set_option maxRecDepth 100000 in
set_option maxHeartbeats 8000000 in
theorem outlineA {w : World} {A : Option Addr} {n c : Nat} {rs : List FR} {fs : List Frg} (h : FVs w A n c rs fs) (hs : Srt fs) (hn : n ≤ 1000) (x : Int) (hx : Wd x) :
    Calls Tryz.prog 84 #[.iface 74 (.slice A n c), .int .u64 x] w (OuP w (outO (fs) x)) := by
  obtain ⟨wa, hwa⟩ : ∃ wa, wa = w.alloc (.cells #[.int .i64 0, .slice none 0 0] 93) := ⟨_, rfl⟩
  have hba : Below w.heap.size w wa := by rw [hwa]; exact (Below.refl _ w).alloc (Nat.le_refl _) _
  have ob : Ob wa w.heap.size 0 none 0 0 := by rw [hwa]; exact Ob.new _ _ _ _ _
  have HF := Lib.hid (fromA_any ((h.below hba).drewN 1) hs hn (ldZ x) (ldZ_in hx))
  have HB := Lib.hid hba
  have HT := Lib.hid (fun w => tag_any x hx w)
  have HL := Lib.hid (fun w => load_any x hx w)
  have qm := fun k v w => meth_apart k v w
  have qn := fun k v w => nil_apart k v w
  have HO := Lib.hid ob
  clear h hba hx ob
  go_enter Tryz.func84, Tryz.ntmps84
  go_upto_region 1 with fail
  rw [← hwa]
  clear hwa
  generalize hD : w.heap.size = D at *
  replace hD := Lib.hid hD
  generalize hgs : fs = gs at *
  clear hgs
  by_cases h5 : x % 8 = 5
  · have hd1 : (x % 8 == 5) = true := by rw [h5]; rfl
    go_upto_region 3 with (go_at_call 52; (with_reducible refine (HT.out _).mono ?_); rintro e w4 ⟨rfl, rfl⟩)
    go_region_held3 (fun _ => True) (trivial) (first
      | (go_at_call 54; refine (HL.out _).mono ?_; rintro e w2 ⟨rfl, rfl⟩)
      | (go_at_call 177; refine HF.out.mono ?_; rintro e w3 ⟨A3, n3, c3, rfl, hz3, hb3⟩))
    all_goals
      clear hd1
      have hl3 := hz3.len
      have hnc := hz3.nc
      have hcm : c3 ≤ 9223372036854775807 := hz3.cm
      have ob3 := (HO.out.drewN 1).below hb3 HO.out.lt
      have z0 := ob3.c0
      have z1 := ob3.c1
      have g0 := ob3.f0
      have g1 := ob3.f1
      have HB3 : Hid (Below D w w3) := Lib.hid (by
        have h9 : Below D w (wa.drewN 1) := below_drewN HB.out 1
        exact h9.trans (hb3.mono (by have := HB.out.size; rw [hD.out] at this; exact this)))
      by_cases h2 : n3 < 2
      · have hd2 : decide ((n3 : Int) < 2) = true := decide_eq_true (by omega)
        have HN : Hid (outO gs x = none) := Lib.hid (by unfold outO; rw [if_pos h5, if_pos (by omega)])
        clear h5 h2 hz3 hb3 HF HO
        go_wp2
        have zz := ob3.set 0 none 0 0
        have z0 := zz.c0
        have z1 := zz.c1
        exact bodyPost_ret (v := .tuple #[.agg #[.int .i64 0, .slice none 0 0], .bool false]) (by simp [results, Tryz.results84, go_sem, z0, z1]) rfl ⟨.inl ⟨HN.out, rfl⟩, by rw [hD.out]; exact below_set2 HB3.out (Nat.le_refl _) _ _⟩
      · have hd2 : decide ((n3 : Int) < 2) = false := decide_eq_false (by omega)
        have HN : Hid (outO gs x = some (-1, (atL gs (ldZ x)).take 2)) := Lib.hid (by unfold outO; rw [if_pos h5, if_neg (by omega)])
        obtain ⟨b, o, hA, _⟩ := hz3.some (by omega)
        subst hA
        have hpart := hz3.part (lo := 0) (m := 2) (o' := o) (by omega) (.inr rfl)
        rw [List.drop_zero, Nat.sub_zero] at hpart
        have HPt := Lib.hid hpart
        have hc2 : (2 : Int) ≤ (c3 : Int) := by omega
        clear h5 h2 hz3 hb3 HF HO hpart
        go_wp2
        have zz := ob3.set (-1) (some ⟨b, o, none⟩) 2 c3
        have y0 := zz.c0
        have y1 := zz.c1
        refine bodyPost_ret (v := .tuple #[.agg #[.int .i64 (-1), .slice (some ⟨b, o, none⟩) 2 c3], .bool true]) (by simp [results, Tryz.results84, go_sem, y0, y1]) rfl ⟨.inr ⟨_, _, _, _, _, HN.out, rfl, ?_⟩, by rw [hD.out]; exact below_set2 HB3.out (Nat.le_refl _) _ _⟩
        exact zs_set2 HPt.out z0 z1 rfl _ _
  · have hd1 : (x % 8 == 5) = false := beq_eq_false_iff_ne.2 h5
    by_cases h4 : x % 8 = 4
    · have hd3 : (x % 8 == 4) = true := by rw [h4]; rfl
      go_upto_region 8 with (go_at_call 52; (with_reducible refine (HT.out _).mono ?_); rintro e w4 ⟨rfl, rfl⟩)
      go_region_held3 (fun _ => True) (trivial) (first
        | (go_at_call 54; refine (HL.out _).mono ?_; rintro e w2 ⟨rfl, rfl⟩)
        | (go_at_call 177; refine HF.out.mono ?_; rintro e w3 ⟨A3, n3, c3, rfl, hz3, hb3⟩))
      all_goals
        clear hd1 hd3
        have hl3 := hz3.len
        have hnc := hz3.nc
        have hcm : c3 ≤ 9223372036854775807 := hz3.cm
        have hwf := Lib.hid hz3.wf
        have ob3 := (HO.out.drewN 1).below hb3 HO.out.lt
        have HB3 : Hid (Below D w w3) := Lib.hid (by
          have h9 : Below D w (wa.drewN 1) := below_drewN HB.out 1
          exact h9.trans (hb3.mono (by have := HB.out.size; rw [hD.out] at this; exact this)))
        obtain ⟨zs, hzs⟩ : ∃ zs, zs = atL gs (ldZ x) := ⟨_, rfl⟩
        rw [← hzs] at hl3 hz3 hwf
        have HE : Hid (outO gs x = boxZ x zs) := Lib.hid (by unfold outO boxO; rw [if_neg h5, ← hzs])
        clear hzs HF HB HO
        cases zs with
        | nil =>
          have hn : n3 = 0 := by rw [← hl3]; rfl
          subst hn
          have HN : Hid (outO gs x = none) := Lib.hid (by rw [HE.out]; rfl)
          have z0 := ob3.c0
          have z1 := ob3.c1
          have g0 := ob3.f0
          have g1 := ob3.f1
          clear h5 h4 hz3 hb3 HE
          go_wp2
          have zz := ob3.set 0 none 0 0
          have z0 := zz.c0
          have z1 := zz.c1
          exact bodyPost_ret (v := .tuple #[.agg #[.int .i64 0, .slice none 0 0], .bool false]) (by simp [results, Tryz.results84, go_sem, z0, z1]) rfl ⟨.inl ⟨HN.out, rfl⟩, by rw [hD.out]; exact below_set2 HB3.out (Nat.le_refl _) _ _⟩
        | cons h t =>
          have hn : n3 = t.length + 1 := by rw [← hl3]; rfl
          obtain ⟨b, o, hA, _⟩ := hz3.some (by omega)
          subst hA
          have y0 : w3.cell? ⟨b, o, none⟩ = some (.int .u64 h) := by simpa using hz3.at_ (j := 0) (by omega)
          have hh := wf_u (hwf.out h (by simp))
          have hd2 : ((n3 : Int) == 0) = false := beq_eq_false_iff_ne.2 (by omega)
          have hn0 : (0 : Int) < (n3 : Int) := by omega
          have hP := parts_any h hh w3
          by_cases hp : ptB h = true
          · rw [hp] at hP
            simp only [if_true] at hP
            have HP := Lib.hid hP
            have hsz : 0 ≤ h / 64 ∧ h / 64 ≤ 1048576 := by
              have := hp
              simp only [ptB, hdB, Bool.and_eq_true, decide_eq_true_eq] at this
              omega
            have hkk : 0 ≤ h / 8 % 8 ∧ h / 8 % 8 ≤ 5 := by
              have := hp
              simp only [ptB, hdB, Bool.and_eq_true, decide_eq_true_eq] at this
              omega
            obtain ⟨m, hm2⟩ : ∃ m : Nat, h / 64 = (m : Int) := ⟨(h / 64).toNat, by omega⟩
            by_cases hs : m ≤ t.length
            · have HS := Lib.hid (show outO gs x = some (h / 8 % 8, t.take m) by
                rw [HE.out]
                show (if x % 8 = 4 ∧ ptB h = true ∧ h / 64 ≤ (t.length : Int) then some (h / 8 % 8, t.take (h / 64).toNat) else none) = _
                rw [if_pos ⟨h4, hp, by omega⟩, hm2]
                rfl)
              rw [hm2] at HP hsz
              generalize h / 8 % 8 = kd at *
              have hd5 : decide ((n3 : Int) ≤ (m : Int)) = false := decide_eq_false (by omega)
              have hm4 : (m : Int) ≤ 1048576 := hsz.2
              have hA1 : (1 : Int) ≤ 1 + (m : Int) := by omega
              have hA2 : 1 + (m : Int) ≤ (c3 : Int) := by omega
              have hA3 : 0 ≤ 1 + (m : Int) := by omega
              have hm5 : 1 + m - 1 = m := by omega
              have HOb : Hid (∀ w', Below w3.heap.size w3 w' → Ob w' D 0 none 0 0) := Lib.hid (fun w' hb => ob3.below hb ob3.lt)
              have key : ∀ o', (m = 0 ∨ o' = o + 1) → Zs .u64 w3 (some ⟨b, o', none⟩) m (c3 - 1) (t.take m) := fun o' ho' => by
                have hpart := hz3.part (lo := 1) (m := m) (o' := o') (by omega) ho'
                simpa using hpart
              by_cases hc1 : c3 = 1
              · have HPt := Lib.hid (key o (.inl (by omega)))
                subst hc1
                clear hz3 key HE hP hp h4 h5 hwf hl3 hb3 ob3
                go_wp2_with (go_at_call 97; (with_reducible refine HP.out.mono ?_); rintro e w5 ⟨rfl, hb5⟩; have ob5 := HOb.out _ hb5; have z0 := ob5.c0; have z1 := ob5.c1; have g0 := ob5.f0; have g1 := ob5.f1; have HPt5 := Lib.hid (HPt.out.below hb5); have HB5 := Lib.hid (HB3.out.trans (hb5.mono (by have h9 := HB3.out.size; rw [hD.out] at h9; exact h9))); clear hb5)
                have zz := ob5.set kd (some ⟨b, o, none⟩) m 0
                have z2 := zz.c0
                have z3 := zz.c1
                refine bodyPost_ret (v := .tuple #[.agg #[.int .i64 kd, .slice (some ⟨b, o, none⟩) m 0], .bool true]) (by simp [results, Tryz.results84, go_sem, z2, z3]) rfl ⟨.inr ⟨_, _, _, _, _, HS.out, rfl, ?_⟩, by rw [hD.out]; exact below_set2 HB5.out (Nat.le_refl _) _ _⟩
                exact zs_set2 HPt5.out z0 z1 rfl _ _
              · have HPt := Lib.hid (key (o + 1) (.inr rfl))
                clear hz3 key HE hP hp h4 h5 hwf hl3 hb3 ob3
                go_wp2_with (go_at_call 97; (with_reducible refine HP.out.mono ?_); rintro e w5 ⟨rfl, hb5⟩; have ob5 := HOb.out _ hb5; have z0 := ob5.c0; have z1 := ob5.c1; have g0 := ob5.f0; have g1 := ob5.f1; have HPt5 := Lib.hid (HPt.out.below hb5); have HB5 := Lib.hid (HB3.out.trans (hb5.mono (by have h9 := HB3.out.size; rw [hD.out] at h9; exact h9))); clear hb5)
                have zz := ob5.set kd (some ⟨b, o + 1, none⟩) m (c3 - 1)
                have z2 := zz.c0
                have z3 := zz.c1
                refine bodyPost_ret (v := .tuple #[.agg #[.int .i64 kd, .slice (some ⟨b, o + 1, none⟩) m (c3 - 1)], .bool true]) (by simp [results, Tryz.results84, go_sem, z2, z3]) rfl ⟨.inr ⟨_, _, _, _, _, HS.out, rfl, ?_⟩, by rw [hD.out]; exact below_set2 HB5.out (Nat.le_refl _) _ _⟩
                exact zs_set2 HPt5.out z0 z1 rfl _ _
            · have HN := Lib.hid (show outO gs x = none by
                rw [HE.out]
                exact if_neg (fun e => by omega))
              rw [hm2] at HP hsz
              generalize h / 8 % 8 = kd at *
              have hd5 : decide ((n3 : Int) ≤ (m : Int)) = true := decide_eq_true (by omega)
              have hm4 : (m : Int) ≤ 1048576 := hsz.2
              have HOb : Hid (∀ w', Below w3.heap.size w3 w' → Ob w' D 0 none 0 0) := Lib.hid (fun w' hb => ob3.below hb ob3.lt)
              clear hz3 HE hP hp h4 h5 hwf hl3 hb3 ob3
              go_wp2_with (go_at_call 97; (with_reducible refine HP.out.mono ?_); rintro e w5 ⟨rfl, hb5⟩; have ob5 := HOb.out _ hb5; have z0 := ob5.c0; have z1 := ob5.c1; have g0 := ob5.f0; have g1 := ob5.f1; have HB5 := Lib.hid (HB3.out.trans (hb5.mono (by have h9 := HB3.out.size; rw [hD.out] at h9; exact h9))); clear hb5)
              have zz := ob5.set 0 none 0 0
              have z2 := zz.c0
              have z3 := zz.c1
              exact bodyPost_ret (v := .tuple #[.agg #[.int .i64 0, .slice none 0 0], .bool false]) (by simp [results, Tryz.results84, go_sem, z2, z3]) rfl ⟨.inl ⟨HN.out, rfl⟩, by rw [hD.out]; exact below_set2 HB5.out (Nat.le_refl _) _ _⟩
          · have hp2 : ptB h = false := by simpa using hp
            rw [hp2] at hP
            have HP := Lib.hid hP
            have HN := Lib.hid (show outO gs x = none by
              rw [HE.out]
              exact if_neg (fun e => hp e.2.1))
            have HOb : Hid (∀ w', Below w3.heap.size w3 w' → Ob w' D 0 none 0 0) := Lib.hid (fun w' hb => ob3.below hb ob3.lt)
            clear hz3 HE hP hp h4 h5 hwf hl3 hb3 ob3 hp2
            go_wp2_with (go_at_call 97; (with_reducible refine HP.out.mono ?_); rintro e w5 ⟨rfl, hb5⟩; have ob5 := HOb.out _ hb5; have z0 := ob5.c0; have z1 := ob5.c1; have g0 := ob5.f0; have g1 := ob5.f1; have HB5 := Lib.hid (HB3.out.trans (hb5.mono (by have h9 := HB3.out.size; rw [hD.out] at h9; exact h9))); clear hb5)
            have zz := ob5.set 0 none 0 0
            have z2 := zz.c0
            have z3 := zz.c1
            exact bodyPost_ret (v := .tuple #[.agg #[.int .i64 0, .slice none 0 0], .bool false]) (by simp [results, Tryz.results84, go_sem, z2, z3]) rfl ⟨.inl ⟨HN.out, rfl⟩, by rw [hD.out]; exact below_set2 HB5.out (Nat.le_refl _) _ _⟩
    · have hd3 : (x % 8 == 4) = false := beq_eq_false_iff_ne.2 h4
      have HN : Hid (outO gs x = none) := Lib.hid (by
        unfold outO boxO
        rw [if_neg h5]
        cases atL gs (ldZ x) with
        | nil => rfl
        | cons h t => exact if_neg (fun e => h4 e.1))
      have z0 := HO.out.c0
      have z1 := HO.out.c1
      have g0 := HO.out.f0
      have g1 := HO.out.f1
      clear h5 h4 HF
      go_wp2_with (go_at_call 52; (with_reducible refine (HT.out _).mono ?_); rintro e w4 ⟨rfl, rfl⟩)
      have zz := HO.out.set 0 none 0 0
      have z2 := zz.c0
      have z3 := zz.c1
      exact bodyPost_ret (v := .tuple #[.agg #[.int .i64 0, .slice none 0 0], .bool false]) (by simp [results, Tryz.results84, go_sem, z2, z3]) rfl ⟨.inl ⟨HN.out, rfl⟩, by rw [hD.out]; exact below_set2 HB.out (Nat.le_refl _) _ _⟩

/-- A memory, as a value. -/
inductive Mm (w : World) (gs : List Frg) (m : Value) : Prop
  | whole (r : DR) (d : Dmp) (h : DV w r d) (hm : r.fm ≤ 1000) (e : gs = d.y :: d.o :: d.fs) (em : m = .iface 63 (.agg #[.int .i64 r.y.at_, .slice r.y.A r.y.n r.y.c, .int .i64 r.o.at_, .slice r.o.A r.o.n r.o.c, .int .i64 r.size, .int .i64 r.mark, .slice r.F r.fm r.fc, .slice r.R r.rm r.rc, .slice r.H r.hm r.hc]))
  | apart (A : Option Addr) (n c : Nat) (rs : List FR) (fs : List Frg) (h : FVs w A n c rs fs) (hs : Srt fs) (hn : n ≤ 1000) (he : ∀ a, atL gs a = atL fs a) (em : m = .iface 74 (.slice A n c))
set_option maxRecDepth 100000 in
theorem Mm.below {w w' : World} {gs : List Frg} {m : Value} (h : Mm w gs m) (hb : Below w.heap.size w w') : Mm w' gs m := by
  cases h with
  | whole r d h hm e em => exact .whole r d (h.below hb) hm e em
  | apart A n c rs fs h hs hn he em => exact .apart A n c rs fs (h.below hb) hs hn he em
set_option maxRecDepth 100000 in
theorem Mm.drewN {w : World} {gs : List Frg} {m : Value} (h : Mm w gs m) (q : Nat) : Mm (w.drewN q) gs m := h.below (bel_drewN w q)
set_option maxRecDepth 100000 in
theorem outO_eq {gs fs : List Frg} (he : ∀ a, atL gs a = atL fs a) (x : Int) : outO gs x = outO fs x := by
  unfold outO boxO
  rw [he]
set_option maxRecDepth 100000 in
theorem outline_any {w : World} {gs : List Frg} {m : Value} (h : Mm w gs m) (x : Int) (hx : Wd x) : Calls Tryz.prog 84 #[m, .int .u64 x] w (OuP w (outO gs x)) := by
  cases h with
  | whole r d h hm e em => subst em e; exact outlineW h hm x hx
  | apart A n c rs fs h hs hn he em => subst em; rw [outO_eq he]; exact outlineA h hs hn x hx
end Go.Proofs.YtejmmjedognaaaaGreat

namespace Go.Proofs.YtejmmjedognaaaaGreat
open Go.RowKit
open St

set_option maxRecDepth 100000 in
theorem mk_bytes (n : Nat) (hn : n ≤ 1000000) (w : World) :
    (Instr.makeSlice 163 (.int .i64 0) (.int .i64 (n : Int))).run Tryz.prog w = .ok (.slice (some ⟨w.heap.size, 0, none⟩) 0 n) (w.alloc (.cells (brr (List.replicate n 0)) 5)) := by
  obtain ⟨i, hi, hz, hs, hb⟩ := info_byte'
  have h := run_make (P := Tryz.prog) w 163 5 i (.int .u8 0) und_bytes hi hz .i64 .i64 0 (n : Int) (by omega) (by omega) (by rw [hb]; omega) (by omega)
  rw [hs] at h
  simp only [Int.toNat_zero, Int.toNat_natCast] at h
  rw [h, brr_made]
set_option maxRecDepth 100000 in
theorem bo_mk (w : World) (n : Nat) (hn : n ≤ maxLen) : Bo (w.alloc (.cells (brr (List.replicate n 0)) 5)) w.heap.size (some ⟨w.heap.size, 0, none⟩) 0 n [] :=
  ⟨Wr.small_nil, rfl, by simp [byVs], .inr ⟨w.heap.size, n, _, rfl, Nat.le_refl _, heap_alloc_new w _, Nat.zero_le _, hn, by rw [brr_size]; simp, by simp [byVs]⟩⟩

set_option maxRecDepth 100000 in
theorem bo_some {w : World} {base n c : Nat} {A : Option Addr} {l : List Nat} (h : Bo w base A n c l) (hn : 0 < n) : ∃ g, A = some ⟨g, 0, none⟩ := by
  rcases h.2.2.2 with ⟨_, h0⟩ | ⟨g, cap, cur, hv, _⟩
  · omega
  · injection hv with hA _ _
    exact ⟨g, hA⟩

set_option maxRecDepth 100000 in
set_option maxRecDepth 100000 in
set_option maxHeartbeats 8000000 in
theorem bytesIn_any {w : World} {A : Option Addr} {m c k : Nat} {ws : List Int} (h : Zs .u64 w A m c ws) (hk : m = k + 1) (hm : m ≤ 1000) :
    Calls Tryz.prog 120 #[.slice A m c] w fun e w' => ∃ g c', e = .returned (.slice (some ⟨g, 0, none⟩) (k * 8) c') ∧ Bo w' w.heap.size (some ⟨g, 0, none⟩) (k * 8) c' (byts (ws.drop 1)) ∧ Below w.heap.size w w' := by
  have hl := h.len
  have hnc := h.nc
  have hcm : c ≤ 9223372036854775807 := h.cm
  have hE : (m : Int) - 1 = (k : Int) := by omega
  have hk1 : k ≤ 999 := by omega
  obtain ⟨b, o, hA, _⟩ := h.some (by omega)
  subst hA
  have hmk := fun w => mk_bytes (8 * k) (by omega) w
  have HBo := Lib.hid (bo_mk w (8 * k) (by unfold maxLen; omega))
  have hb0 : Below w.heap.size w (w.alloc (.cells (brr (List.replicate (8 * k) 0)) 5)) := (Below.refl _ w).alloc (Nat.le_refl _) _
  have HB0 := Lib.hid hb0
  obtain ⟨zs, hzs⟩ : ∃ zs, zs = ws.drop 1 := ⟨_, rfl⟩
  have hzl : zs.length = k := by rw [hzs, List.length_drop]; omega
  have HP : Hid (∀ o', (k = 0 ∨ o' = o + 1) → Zs .u64 w (some ⟨b, o', none⟩) k (c - 1) zs) := Lib.hid (fun o' ho' => by
    have hpart := h.part (lo := 1) (m := k) (o' := o') (by omega) ho'
    rw [List.take_of_length_le (by rw [List.length_drop]; omega), ← hzs] at hpart
    exact hpart)
  rw [← hzs]
  have hcp : (1 : Int) ≤ (c : Int) := by omega
  have hmp : (1 : Int) ≤ (m : Int) := by omega
  have hm2 : m - 1 = k := by omega
  clear h hb0 hzs hl
  replace hk := Lib.hid hk
  rw [show ((8 * k : Nat) : Int) = 8 * (k : Int) by omega] at hmk
  generalize hM : brr (List.replicate (8 * k) 0) = MM at *
  clear hM
  by_cases hc1 : c = 1
  · have hk0 : k = 0 := by have := hk.out; omega
    subst hc1 hk0
    have hz0 : zs = [] := List.eq_nil_of_length_eq_zero hzl
    subst hz0
    have hm1 : m = 1 := hk.out
    subst hm1
    have hmk0 : ∀ w : World, (Instr.makeSlice 163 (.int .i64 0) (.int .i64 0)).run Tryz.prog w = .ok (.slice (some ⟨w.heap.size, 0, none⟩) 0 0) (w.alloc (.cells MM 5)) := fun w => by simpa using hmk w
    clear hmk hE hcp hmp hm2 hcm hk1 hm hnc
    go_enter Tryz.func120, Tryz.ntmps120
    go_wp2_with fail
    go_loopw [3, 15] (fun v3 v15 wx => v15 = .int .i64 0 ∧ v3 = .slice (some ⟨w.heap.size, 0, none⟩) 0 0 ∧ wx = w.alloc (.cells MM 5)) (fun _ _ _ => 0)
    case atStart => exact ⟨rfl, rfl, rfl⟩
    case round =>
      obtain ⟨rfl, rfl, rfl⟩ := hrel
      go_wp2
      go_ret
      exact ⟨_, _, rfl, HBo.out, HB0.out⟩
  · have HP1 := Lib.hid (HP.out (o + 1) (.inr rfl))
    clear HP
    go_enter Tryz.func120, Tryz.ntmps120
    go_wp2_with fail
    go_loopw [3, 15] (fun v3 v15 wx => ∃ (i : Nat) (A' : Option Addr) (c' : Nat), i ≤ k ∧ v15 = .int .i64 (i : Int) ∧ v3 = .slice A' (i * 8) c' ∧ Bo wx w.heap.size A' (i * 8) c' ((byts zs).take (i * 8)) ∧ Below w.heap.size w wx ∧ (i = 0 → A' = some ⟨w.heap.size, 0, none⟩)) (fun _ v15 _ => k - (intOf v15).toNat)
    case atStart => exact ⟨0, _, _, Nat.zero_le _, rfl, rfl, by simpa using HBo.out, HB0.out, fun _ => rfl⟩
    case round =>
      clear HBo HB0
      obtain ⟨i, A', c', hi, rfl, rfl, hB, hb, hz⟩ := hrel
      by_cases him : i < k
      · have hd1 : decide ((i : Int) < (k : Int)) = true := decide_eq_true (by omega)
        have y0 := (HP1.out.below hb).at_ him
        have hx := wf_u (HP1.out.wfAt him)
        have hget0 := byts_get zs i
        replace hB := Lib.hid hB
        replace hb := Lib.hid hb
        replace hget0 := Lib.hid hget0
        clear hz
        generalize zs.getD i 0 = x at *
        go_wp2_with fail
        go_loopw [3, 19] (fun v3 v19 wx => ∃ (j : Nat) (A' : Option Addr) (c' : Nat), j ≤ 8 ∧ v19 = .int .i64 (j : Int) ∧ v3 = .slice A' (i * 8 + j) c' ∧ Bo wx w.heap.size A' (i * 8 + j) c' ((byts zs).take (i * 8 + j)) ∧ Below w.heap.size w wx) (fun _ v19 _ => 8 - (intOf v19).toNat)
        case atStart => exact ⟨0, A', c', by omega, rfl, rfl, hB.out, hb.out⟩
        case round =>
          clear hB hb
          obtain ⟨j, A', c', hj, rfl, rfl, hB, hb⟩ := hrel
          by_cases hj8 : j < 8
          · have hd2 : decide ((j : Int) < 8) = true := decide_eq_true (by omega)
            have hget := hget0.out j (by omega) hj8
            have hsm := byt_small x j
            have hbz : x / 2 ^ (8 * j) % 256 = ((byt x j : Nat) : Int) := by
              unfold byt
              omega
            generalize byt x j = B at *
            have hbn : Below wr.heap.size wr (wr.alloc (.cells (brr [B]) 5)) := (Below.refl _ _).alloc (Nat.le_refl _) _
            obtain ⟨A2, c2, w2, run2, hB2, hG2⟩ := (hB.below hbn).app (some ⟨wr.heap.size, 0, none⟩) 1 1 [B] (By.new wr [B] (fun x hx => by simp at hx; omega)) (by omega) (Nat.le_trans hb.size hbn.size) 163
            have hb2 : Hid (Below w.heap.size w w2) := Lib.hid ((hb.trans (hbn.mono hb.size)).trans (hG2.below (hB.below hbn) (Nat.le_trans hb.size hbn.size)))
            have htk : (byts zs).take (i * 8 + (j + 1)) = (byts zs).take (i * 8 + j) ++ [B] := by
              rw [show i * 8 + (j + 1) = (i * 8 + j) + 1 by omega, List.take_add_one, hget]
              rfl
            have HB2 := Lib.hid (htk ▸ hB2)
            rw [show brr [B] = #[.int .u8 (B : Int)] from rfl] at run2
            have R2 := Lib.hid run2
            clear hB hb hbn run2 hB2 hG2 y0 hget htk hd1
            go_wp2_with (at_builtin; refine wpApp rfl (.tmp 22) (.tmp 28) _ rfl _ _ _ rfl rfl R2.out ?_)
            exact ⟨⟨j + 1, A2, c2, by omega, rfl, rfl, HB2.out, hb2.out⟩, by simp [intOf]; omega⟩
          · have ej : j = 8 := by omega
            subst ej
            have hd2 : decide (((8 : Nat) : Int) < 8) = false := decide_eq_false (by omega)
            have e8 : (i + 1) * 8 = i * 8 + 8 := by omega
            replace hB := Lib.hid hB
            replace hb := Lib.hid hb
            clear y0
            go_wp2_with fail
            exact ⟨⟨i + 1, A', c', by omega, rfl, by rw [e8], by rw [e8]; exact hB.out, hb.out, fun e => by omega⟩, by simp [intOf]; omega⟩
      · have ei : i = k := by omega
        subst ei
        have hd1 : decide ((i : Int) < (i : Int)) = false := decide_eq_false (by omega)
        rw [List.take_of_length_le (by rw [byts_len]; omega)] at hB
        obtain ⟨g, rfl⟩ : ∃ g, A' = some ⟨g, 0, none⟩ := by
          by_cases e : i = 0
          · exact ⟨_, hz e⟩
          · exact bo_some hB (by omega)
        replace hB := Lib.hid hB
        replace hb := Lib.hid hb
        clear HP1 hz
        go_wp2
        go_ret
        exact ⟨_, _, rfl, hB.out, hb.out⟩
end Go.Proofs.YtejmmjedognaaaaGreat
