/-
  SORTING IN PLACE: symMerge.
-/
import Derived.Test.YtmcfokeibecopaaK15
namespace Go.Proofs.Ytmcfokeibecopaa
open Go.RowKit
open Od

set_option maxRecDepth 100000 in
theorem rot_triv (d : Nat → Nat) (a m b : Nat) (h1 : a ≤ m) (h2 : m ≤ b) (h : a = m ∨ m = b) : Srt.rot d a m b = d := by
  funext x
  unfold Srt.rot
  repeat' split
  all_goals first | rfl | (exfalso; omega) | (congr 1; omega)

set_option maxRecDepth 100000 in
set_option maxRecDepth 100000 in
set_option maxHeartbeats 4000000 in
theorem sym_rec (w : World) (b o m g n : Nat) (hn : n ≤ 100000) (ts : List Tm) (S : SoT w b o m ts) (p q r : Nat) (hpq : p + 1 < q) (hqr : q + 1 < r) (hr : r ≤ n) (d : Nat → Nat) (W : World) (h : SoI w b o m g n d W) (hu : Srt.Up (leI ts) d p q) (hv : Srt.Up (leI ts) d q r)
    (ih : ∀ (p' q' r' : Nat), r' - p' < r - p → p' < q' → q' < r' → r' ≤ n → ∀ (d' : Nat → Nat) (W' : World), SoI w b o m g n d' W' → Srt.Up (leI ts) d' p' q' → Srt.Up (leI ts) d' q' r' →
      Calls Try.prog 73 #[.slice (some ⟨g, 0, none⟩) n n, .int .i64 (p' : Int), .int .i64 (q' : Int), .int .i64 (r' : Int), (.func (.func 20) #[] #[])] W' (SmP w b o m g n ts p' r' d')) :
    Calls Try.prog 73 #[.slice (some ⟨g, 0, none⟩) n n, .int .i64 (p : Int), .int .i64 (q : Int), .int .i64 (r : Int), (.func (.func 20) #[] #[])] W (SmP w b o m g n ts p r d) := by
  have T := Lib.hid (leI_tot ts)
  have HU := Lib.hid hu
  have HV := Lib.hid hv
  have IH := Lib.hid ih
  clear hu hv ih
  have e0 : ((q : Int) - (p : Int) == 1) = false := beq_eq_false_iff_ne.2 (by omega)
  have e0' : ((r : Int) - (q : Int) == 1) = false := beq_eq_false_iff_ne.2 (by omega)
  obtain ⟨mid, hmid⟩ : ∃ mid : Nat, mid = (p + r) / 2 := ⟨_, rfl⟩
  have hm1 : ((p : Int) + (r : Int)) / 2 = (mid : Int) := by omega
  have hm2 : 2 * mid ≤ p + r := by omega
  have hm3 : p + r ≤ 2 * mid + 1 := by omega
  have HMID := Lib.hid hm1
  clear hmid hm1
  obtain ⟨s0, t0, hst⟩ : ∃ s0 t0 : Nat, (mid < q ∧ s0 + r = mid + q ∧ t0 = mid) ∨ (q ≤ mid ∧ s0 = p ∧ t0 = q) := by
    by_cases hc : mid < q
    · exact ⟨mid + q - r, mid, .inl ⟨hc, by omega, rfl⟩⟩
    · exact ⟨p, q, .inr ⟨by omega, rfl, rfl⟩⟩
  go_enter Try.func73, Try.ntmps73
  go_upto_region 25 with fail
  rw [HMID.out]
  go_upto_if 140 with (fail)
  go_cut [20, 21] (fun x y wx => x = .int .i64 (s0 : Int) ∧ y = .int .i64 (t0 : Int) ∧ SoI w b o m g n d wx)
  case first =>
   as_aux_lemma =>
    rcases hst with ⟨hc, hs0, ht0⟩ | ⟨hc, hs0, ht0⟩
    · have hd1 : decide ((mid : Int) < (q : Int)) = true := decide_eq_true (by omega)
      have HS := Lib.hid (show (mid : Int) + (q : Int) - (r : Int) = (s0 : Int) by omega)
      have HT := Lib.hid (show (mid : Int) = (t0 : Int) by omega)
      clear hs0 ht0
      go_wp2_with fail
      go_meet
      exact ⟨by rw [HS.out], by rw [HT.out], h⟩
    · have hd1 : decide ((mid : Int) < (q : Int)) = false := decide_eq_false (by omega)
      have HS := Lib.hid hs0
      have HT := Lib.hid ht0
      clear hs0 ht0
      go_wp2_with fail
      go_meet
      exact ⟨by rw [HS.out], by rw [HT.out], h⟩
  clear h
  obtain ⟨rfl, rfl, J⟩ := hcut
  have hs0 : p ≤ s0 ∧ s0 ≤ t0 ∧ t0 ≤ q ∧ t0 ≤ mid ∧ mid + q ≤ s0 + r := by omega
  obtain ⟨P, hP⟩ : ∃ P : Nat, P + 1 = mid + q := ⟨mid + q - 1, by omega⟩
  have HP := Lib.hid (show (mid : Int) + (q : Int) - 1 = (P : Int) by omega)
  go_wp2_with fail
  rw [HP.out]
  go_loopw [20, 21] (fun x y w' => ∃ s t : Nat, s0 ≤ s ∧ s ≤ t ∧ t ≤ t0 ∧ x = .int .i64 (s : Int) ∧ y = .int .i64 (t : Int) ∧ Hid (∀ x, s0 ≤ x → x < s → leI ts (d x) (d (P - x))) ∧ Hid (∀ x, t ≤ x → x < t0 → leI ts (d (P - x)) (d x)) ∧ SoI w b o m g n d w') (fun x y _ => (intOf y).toNat - (intOf x).toNat)
  case atStart => exact ⟨s0, t0, Nat.le_refl _, hs0.2.1, Nat.le_refl _, rfl, rfl, Lib.hid (fun x h1 h2 => absurd h1 (by omega)), Lib.hid (fun x h1 h2 => absurd h1 (by omega)), J⟩
  case round =>
    clear J
    obtain ⟨s, t, hs, hst', ht, rfl, rfl, h1, h2, J⟩ := hrel
    by_cases hlt : s < t
    ·
     as_aux_lemma =>
      have hd1 : decide ((s : Int) < (t : Int)) = true := decide_eq_true (by omega)
      go_upto_region 35 with fail
      obtain ⟨c, hc⟩ : ∃ c : Nat, ((s : Int) + (t : Int)) / 2 = (c : Int) := ⟨(s + t) / 2, by omega⟩
      have hic : s ≤ c := by omega
      have hcj : c < t := by omega
      rw [hc]
      clear hc
      obtain ⟨u, hu⟩ : ∃ u : Nat, u + c = P := ⟨P - c, by omega⟩
      have huq : q ≤ u ∧ u < r := by omega
      have c1 := J.cell (i := u) (by omega)
      have c2 := J.cell (i := c) (by omega)
      have e5 : (c : Int) < (n : Int) := by omega
      have e6 : (u : Int) < (n : Int) := by omega
      have e1 : IntKind.i64.wrap ((P : Int) - (c : Int)) = (u : Int) := by rw [IntWalk.i64_in _ (by omega)]; omega
      have HC := Lib.hid (so_cmp S J.drew (x := u) (y := c) (by omega) (by omega))
      have HJ := Lib.hid J.drew
      clear J
      obtain ⟨C, hC⟩ : ∃ C, C = Tm.cmpT (at' ts (d u)) (at' ts (d c)) := ⟨_, rfl⟩
      rw [← hC] at HC
      have HCC := Lib.hid hC
      have HUC := Lib.hid hu
      have HUQ := Lib.hid huq
      have hun : u < n := by omega
      have hcn : c < n := by omega
      clear hC hu huq
      go_region_held3 (fun w' => w'.cell? ⟨g, u, none⟩ = some (ptr b o (d u)) ∧ w'.cell? ⟨g, c, none⟩ = some (ptr b o (d c)))
        (first | exact ⟨c1, c2⟩ | exact KS.out)
        (first
          | (go_at_call 20; refine HC.out.mono ?_; rintro e v ⟨rfl, hv⟩; have J2 := Lib.hid (HJ.out.below hv); have KS := Lib.hid (And.intro (J2.out.cell (i := u) hun) (J2.out.cell (i := c) hcn))))
      clear c1 c2 KS HC HJ hv e1 e5 e6 hun hcn
      have hu := HUC.out
      have huq := HUQ.out
      by_cases hc : C < 0
      · have hnle : ¬ leI ts (d c) (d u) := lt_leI.1 (by rw [← HCC.out]; exact hc)
        have hs2 := Lib.hid (show ∀ x, c ≤ x → x < t0 → leI ts (d (P - x)) (d x) from fun x a1 a2 => T.out.trans _ _ _ (HV.out (P - x) u (by omega) (by omega) (by omega)) (T.out.trans _ _ _ (T.out.of_not hnle) (HU.out c x (by omega) a1 (by omega))))
        clear hnle hu huq
        rw [decide_eq_true hc, Bool.not_true]
        go_wp2_with fail
        exact ⟨⟨s, c, hs, hic, by omega, rfl, rfl, h1, hs2, J2.out⟩, by simp [intOf]; omega⟩
      · have hle : leI ts (d c) (d u) := Classical.byContradiction fun hn => hc (by rw [HCC.out]; exact lt_leI.2 hn)
        have hs2 := Lib.hid (show ∀ x, s0 ≤ x → x < c + 1 → leI ts (d x) (d (P - x)) from fun x a1 a2 => T.out.trans _ _ _ (HU.out x c (by omega) (by omega) (by omega)) (T.out.trans _ _ _ hle (HV.out u (P - x) (by omega) (by omega) (by omega))))
        clear hle hu huq
        rw [decide_eq_false hc, Bool.not_false]
        go_wp2_with fail
        exact ⟨⟨c + 1, t, by omega, by omega, ht, by go_num, rfl, hs2, h2, J2.out⟩, by simp [intOf]; omega⟩
    ·
     as_aux_lemma =>
      have hd1 : decide ((s : Int) < (t : Int)) = false := decide_eq_false (by omega)
      have est : s = t := by omega
      subst est
      obtain ⟨e, he⟩ : ∃ e : Nat, mid + q = s + e := ⟨mid + q - s, by omega⟩
      have hqe : q ≤ e ∧ e ≤ r ∧ mid ≤ e := by omega
      have hps : p ≤ s ∧ s ≤ q ∧ s ≤ mid := by omega
      have HE := Lib.hid (show (mid : Int) + (q : Int) - (s : Int) = (e : Int) by omega)
      have X1 : p < s → e < r → leI ts (d (s - 1)) (d e) := fun a1 a2 => by
        have := h1.out (s - 1) (by omega) (by omega)
        rw [show P - (s - 1) = e by omega] at this
        exact this
      have X2 : s < q → q < e → leI ts (d (e - 1)) (d s) := fun a1 a2 => by
        have := h2.out s (Nat.le_refl _) (by omega)
        rw [show P - s = e - 1 by omega] at this
        exact this
      have M := Lib.hid (Srt.merge_turn T.out HU.out HV.out (mid := mid) hps.1 hps.2.1 hqe.1 hqe.2.1 he X1 X2)
      have RM := Lib.hid ((Srt.rot_mv d s q e hps.2.1 hqe.1).mono (a' := p) (b' := r) hps.1 hqe.2.1)
      have RT := Lib.hid (rot_triv d s q e hps.2.1 hqe.1)
      clear X1 X2 h1 h2
      obtain ⟨D, hD⟩ : ∃ D, D = Srt.rot d s q e := ⟨_, rfl⟩
      rw [← hD] at M RM RT
      have HD := Lib.hid hD
      clear hD
      go_upto_region 39 with fail
      rw [HE.out]
      go_cut [185] (fun v wx => v = .bool (decide (s < q ∧ q < e)) ∧ SoI w b o m g n d wx)
      case first =>
       as_aux_lemma =>
        by_cases h1 : s < q
        · have i1 : decide ((s : Int) < (q : Int)) = true := decide_eq_true (by omega)
          by_cases h2 : q < e
          · have i2 : decide ((q : Int) < (e : Int)) = true := decide_eq_true (by omega)
            have hb : decide (s < q ∧ q < e) = true := decide_eq_true ⟨h1, h2⟩
            go_wp2_with fail
            go_meet
            exact ⟨by rw [hb], J⟩
          · have i2 : decide ((q : Int) < (e : Int)) = false := decide_eq_false (by omega)
            have hb : decide (s < q ∧ q < e) = false := decide_eq_false (fun h => h2 h.2)
            go_wp2_with fail
            go_meet
            exact ⟨by rw [hb], J⟩
        · have i1 : decide ((s : Int) < (q : Int)) = false := decide_eq_false (by omega)
          have hb : decide (s < q ∧ q < e) = false := decide_eq_false (fun h => h1 h.1)
          go_wp2_with fail
          go_meet
          exact ⟨by rw [hb], J⟩
      clear J
      obtain ⟨rfl, J⟩ := hcut
      go_upto_if 185 with (fail)
      go_cut [] (fun wx => SoI w b o m g n D wx)
      case first =>
       as_aux_lemma =>
        by_cases hb : s < q ∧ q < e
        · rw [decide_eq_true hb]
          go_wp2_with fail
          refine (rotate_any w b o m g n hn _ s q e hb.1 hb.2 (by omega) d _ J).mono ?_
          rw [← HD.out]
          rintro _ v ⟨rfl, J2⟩
          go_wp2_with fail
          go_meet
          exact J2
        · rw [decide_eq_false hb]
          have hDd := RT.out (by omega)
          go_wp2_with fail
          go_meet
          rw [hDd]
          exact J
      clear J RT HD
      have J := hcut
      clear hcut
      as_aux_lemma =>
        go_upto_region 41 with fail
        go_cut [199] (fun v wx => v = .bool (decide (p < s ∧ s < mid)) ∧ SoI w b o m g n D wx)
        case first =>
         as_aux_lemma =>
          by_cases h1 : p < s
          · have i1 : decide ((p : Int) < (s : Int)) = true := decide_eq_true (by omega)
            by_cases h2 : s < mid
            · have i2 : decide ((s : Int) < (mid : Int)) = true := decide_eq_true (by omega)
              have hb : decide (p < s ∧ s < mid) = true := decide_eq_true ⟨h1, h2⟩
              go_wp2_with fail
              go_meet
              exact ⟨by rw [hb], J⟩
            · have i2 : decide ((s : Int) < (mid : Int)) = false := decide_eq_false (by omega)
              have hb : decide (p < s ∧ s < mid) = false := decide_eq_false (fun h => h2 h.2)
              go_wp2_with fail
              go_meet
              exact ⟨by rw [hb], J⟩
          · have i1 : decide ((p : Int) < (s : Int)) = false := decide_eq_false (by omega)
            have hb : decide (p < s ∧ s < mid) = false := decide_eq_false (fun h => h1 h.1)
            go_wp2_with fail
            go_meet
            exact ⟨by rw [hb], J⟩
        clear J
        obtain ⟨rfl, J⟩ := hcut
        go_upto_if 199 with (fail)
        go_cut [] (fun wx => ∃ d1, SoI w b o m g n d1 wx ∧ Hid (Srt.Mv p mid D d1) ∧ Hid (Srt.Up (leI ts) d1 p mid))
        case first =>
         as_aux_lemma =>
          by_cases hb : p < s ∧ s < mid
          · rw [decide_eq_true hb]
            go_wp2_with fail
            refine (IH.out p s mid (by omega) hb.1 hb.2 (by omega) D _ J M.out.1 M.out.2.1).mono ?_
            rintro _ v ⟨rfl, d1, J2, m1, u1⟩
            have m1' := Lib.hid m1
            have u1' := Lib.hid u1
            clear m1 u1
            go_wp2_with fail
            go_meet
            exact ⟨d1, J2, m1', u1'⟩
          · rw [decide_eq_false hb]
            have uu := Lib.hid (Srt.up_join M.out.1 M.out.2.1 (by omega))
            go_wp2_with fail
            go_meet
            exact ⟨D, J, Lib.hid (Srt.Mv.refl _ _ _), uu⟩
        clear J
        obtain ⟨d1, J, m1, u1⟩ := hcut
        as_aux_lemma =>
          go_upto_region 43 with fail
          go_cut [213] (fun v wx => v = .bool (decide (mid < e ∧ e < r)) ∧ SoI w b o m g n d1 wx)
          case first =>
           as_aux_lemma =>
            by_cases h1 : mid < e
            · have i1 : decide ((mid : Int) < (e : Int)) = true := decide_eq_true (by omega)
              by_cases h2 : e < r
              · have i2 : decide ((e : Int) < (r : Int)) = true := decide_eq_true (by omega)
                have hb : decide (mid < e ∧ e < r) = true := decide_eq_true ⟨h1, h2⟩
                go_wp2_with fail
                go_meet
                exact ⟨by rw [hb], J⟩
              · have i2 : decide ((e : Int) < (r : Int)) = false := decide_eq_false (by omega)
                have hb : decide (mid < e ∧ e < r) = false := decide_eq_false (fun h => h2 h.2)
                go_wp2_with fail
                go_meet
                exact ⟨by rw [hb], J⟩
            · have i1 : decide ((mid : Int) < (e : Int)) = false := decide_eq_false (by omega)
              have hb : decide (mid < e ∧ e < r) = false := decide_eq_false (fun h => h1 h.1)
              go_wp2_with fail
              go_meet
              exact ⟨by rw [hb], J⟩
          clear J
          obtain ⟨rfl, J⟩ := hcut
          go_upto_if 213 with (fail)
          have u2 := Lib.hid (show Srt.Up (leI ts) d1 mid e from fun x y a1 a2 a3 => by rw [m1.out.out (.inr a1), m1.out.out (.inr (by omega))]; exact M.out.2.2.1 x y a1 a2 a3)
          have u3 := Lib.hid (show Srt.Up (leI ts) d1 e r from fun x y a1 a2 a3 => by rw [m1.out.out (.inr (by omega)), m1.out.out (.inr (by omega))]; exact M.out.2.2.2.1 x y a1 a2 a3)
          have fin : Hid (∀ d2, Srt.Mv mid r d1 d2 → Srt.Up (leI ts) d2 mid r → Srt.Mv p r d d2 ∧ Srt.Up (leI ts) d2 p r) := Lib.hid (fun d2 m2 v2 =>
            ⟨(RM.out.trans (m1.out.mono (Nat.le_refl _) (by omega))).trans (m2.mono (by omega) (Nat.le_refl _)), Srt.merge_both M.out.2.2.2.2 m1.out u1.out m2 v2⟩)
          by_cases hb : mid < e ∧ e < r
          · rw [decide_eq_true hb]
            go_wp2_with fail
            refine (IH.out mid e r (by omega) hb.1 hb.2 hr d1 _ J u2.out u3.out).mono ?_
            rintro _ v ⟨rfl, d2, J2, m2, v2⟩
            have ff := fin.out d2 m2 v2
            go_wp2
            go_end0
            exact ⟨rfl, d2, J2, ff.1, ff.2⟩
          · rw [decide_eq_false hb]
            have ff := fin.out d1 (Srt.Mv.refl _ _ _) (Srt.up_join u2.out u3.out (by omega))
            go_wp2
            go_end0
            exact ⟨rfl, d1, J, ff.1, ff.2⟩

set_option maxRecDepth 100000 in
theorem sym_any (w : World) (b o m g n : Nat) (hn : n ≤ 100000) (ts : List Tm) (S : SoT w b o m ts) (N : Nat) : ∀ (p q r : Nat), r - p < N → p < q → q < r → r ≤ n → ∀ (d : Nat → Nat) (W : World), SoI w b o m g n d W → Srt.Up (leI ts) d p q → Srt.Up (leI ts) d q r →
    Calls Try.prog 73 #[.slice (some ⟨g, 0, none⟩) n n, .int .i64 (p : Int), .int .i64 (q : Int), .int .i64 (r : Int), (.func (.func 20) #[] #[])] W (SmP w b o m g n ts p r d) := by
  induction N with
  | zero => intro p q r h; omega
  | succ N ih =>
    intro p q r hN hpq hqr hr d W h hu hv
    by_cases h1 : q = p + 1
    · exact sym_one w b o m g n hn ts S p q r h1 hqr hr d W h hv
    · by_cases h2 : r = q + 1
      · exact sym_last w b o m g n hn ts S p q r (by omega) h2 hr d W h hu
      · exact sym_rec w b o m g n hn ts S p q r (by omega) (by omega) hr d W h hu hv fun p' q' r' hlt => ih p' q' r' (by omega)
end Go.Proofs.Ytmcfokeibecopaa
