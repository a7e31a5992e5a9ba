/-
  NumSmall's walk: integers above Greatest.
-/
import Derived.Test.YtlmojomnebjhaaaLawSmall
namespace Go.Proofs.Ytlmojomnebjhaaa
open Go.RowKit

set_option maxHeartbeats 4000000 in
theorem numSmall_hi (a0 a1 : Int) (h1 : 1152921504606846975 < a0) (h2 : a0 ≤ 9223372036854775807) (w : World) :
    Calls Try.prog 5 #[.int .i64 a0, .int .i64 a1] w fun e w' => e = .returned (.bool true) ∧ Below w.heap.size w w' := by
  have hsb := Lib.hid (show smallB a0 = false by simp [smallB]; omega)
  have g1 : decide (-1152921504606846976 ≤ a0) = true := by rw [decide_eq_true_iff]; omega
  have g2 : decide (a0 ≤ 1152921504606846975) = false := by rw [decide_eq_false_iff_not]; omega
  have hT := Lib.hid (top_i64 (a := a0) (by omega) (by omega))
  have hqa := quarter a0
  have hqb := quarter a1
  go_enter Try.func5, Try.ntmps5
  go_wp2_with fail
  refine (of_any w a0 (by omega) (by omega)).mono ?_
  rintro e w1 ⟨_, rfl, ⟨s1, A1, n1, c1, rfl, hs1, ho1⟩, hb1⟩
  go_wp2_with fail
  refine (small_z w1 s1 A1 n1 c1 _ (Nm.of_own hs1 ho1) hT.out).mono ?_
  rw [hsb.out, if_neg (by decide)]
  rintro e w2 ⟨rfl, hb2⟩
  have hbl := hb1.trans (hb2.mono hb1.size)
  clear hs1 ho1 hb1 hb2
  go_wp2_with fail
  generalize wrap64 ((wrap64 (wrap32 (a0 % 4294967296))).tdiv 4) = x at *
  generalize wrap64 ((wrap64 (wrap32 (a1 % 4294967296))).tdiv 4) = y at *
  obtain ⟨u1, u2⟩ := hqa
  obtain ⟨v1, v2⟩ := hqb
  obtain ⟨p1, p2⟩ := prod_bound u1 u2 v1 v2
  have TX := Lib.hid (top_i64 (a := x) (by omega) (by omega))
  have TY := Lib.hid (top_i64 (a := y) (by omega) (by omega))
  have T1 := Lib.hid (top_i64 (a := x + y) (by omega) (by omega))
  have T2 := Lib.hid (top_i64 (a := x - y) (by omega) (by omega))
  have T3 := Lib.hid (top_i64 (a := x * y) (by omega) (by omega))
  refine (of_any _ x (by omega) (by omega)).mono ?_
  rintro e wa ⟨_, rfl, ⟨sa, Aa, na, ca, rfl, hsa, hoa⟩, hba⟩
  go_wp2_with fail
  refine (of_any wa y (by omega) (by omega)).mono ?_
  rintro e wb ⟨_, rfl, ⟨sb, Ab, nb, cb, rfl, hsb, hob⟩, hbb⟩
  go_wp2_with fail
  refine (add_z wb sa sb Aa Ab na ca nb cb _ _ ((Nm.of_own hsa hoa).below hbb) (Nm.of_own hsb hob) TX.out TY.out).mono ?_
  rw [clip_small T1.out, fits_small T1.out]
  rintro e wc ⟨_, rfl, ⟨s1, A1, n1, c1, rfl, hs1, ho1⟩, hbc⟩
  have nm1 := Nm.of_own hs1 ho1
  clear hsa hoa hsb hob hs1 ho1
  have bl1 := (hbl.trans ((hba.trans (hbb.mono hba.size)).trans (hbc.mono (Nat.le_trans hba.size hbb.size)) |>.mono hbl.size)).alloc (Nat.le_trans hbl.size (Nat.le_trans hba.size (Nat.le_trans hbb.size hbc.size))) (.cells #[.bool s1, .slice A1 n1 c1] 24)
  have x1 := Box.new wc (.bool s1) (.slice A1 n1 c1)
  replace nm1 := nm1.below ((Below.refl _ _).alloc (Nat.le_refl _) (.cells #[.bool s1, .slice A1 n1 c1] 24))
  go_wp2_with fail
  obtain ⟨p, hp⟩ : ∃ p, p = wc.heap.size := ⟨_, rfl⟩
  rw [← hp] at x1 ⊢
  generalize wc.alloc (.cells #[.bool s1, .slice A1 n1 c1] 24) = W1 at *
  clear hbl hba hbb hbc hp
  refine (of_any _ x (by omega) (by omega)).mono ?_
  rintro e wa ⟨_, rfl, ⟨sa, Aa, na, ca, rfl, hsa, hoa⟩, hba⟩
  go_wp2_with fail
  refine (of_any wa y (by omega) (by omega)).mono ?_
  rintro e wb ⟨_, rfl, ⟨sb, Ab, nb, cb, rfl, hsb, hob⟩, hbb⟩
  go_wp2_with fail
  refine (sub_z wb sa sb Aa Ab na ca nb cb _ _ ((Nm.of_own hsa hoa).below hbb) (Nm.of_own hsb hob) TX.out TY.out).mono ?_
  rw [clip_small T2.out, fits_small T2.out]
  rintro e wc ⟨_, rfl, ⟨s2, A2, n2, c2, rfl, hs2, ho2⟩, hbc⟩
  have nm2 := Nm.of_own hs2 ho2
  clear hsa hoa hsb hob hs2 ho2
  have bz := (hba.trans (hbb.mono hba.size)).trans (hbc.mono (Nat.le_trans hba.size hbb.size))
  have bl2 := (bl1.trans (bz.mono bl1.size)).alloc (Nat.le_trans bl1.size bz.size) (.cells #[.bool s2, .slice A2 n2 c2] 24)
  have bw := bz.alloc bz.size (.cells #[.bool s2, .slice A2 n2 c2] 24)
  have x2 := Box.new wc (.bool s2) (.slice A2 n2 c2)
  replace nm2 := nm2.below ((Below.refl _ _).alloc (Nat.le_refl _) (.cells #[.bool s2, .slice A2 n2 c2] 24))
  replace x1 := x1.below' bw
  replace nm1 := nm1.below bw
  go_wp2_with fail
  obtain ⟨q, hq⟩ : ∃ q, q = wc.heap.size := ⟨_, rfl⟩
  rw [← hq] at x2 ⊢
  generalize wc.alloc (.cells #[.bool s2, .slice A2 n2 c2] 24) = W2 at *
  clear bl1 hba hbb hbc hq bz bw
  refine (of_any _ x (by omega) (by omega)).mono ?_
  rintro e wa ⟨_, rfl, ⟨sa, Aa, na, ca, rfl, hsa, hoa⟩, hba⟩
  go_wp2_with fail
  refine (of_any wa y (by omega) (by omega)).mono ?_
  rintro e wb ⟨_, rfl, ⟨sb, Ab, nb, cb, rfl, hsb, hob⟩, hbb⟩
  go_wp2_with fail
  refine (mul_z wb sa sb Aa Ab na ca nb cb _ _ ((Nm.of_own hsa hoa).below hbb) (Nm.of_own hsb hob) TX.out TY.out).mono ?_
  rw [clip_small T3.out, fits_small T3.out]
  rintro e wc ⟨_, rfl, ⟨s3, A3, n3, c3, rfl, hs3, ho3⟩, hbc⟩
  have nm3 := Nm.of_own hs3 ho3
  clear hsa hoa hsb hob hs3 ho3
  have bz := (hba.trans (hbb.mono hba.size)).trans (hbc.mono (Nat.le_trans hba.size hbb.size))
  have bl3 := (bl2.trans (bz.mono bl2.size)).alloc (Nat.le_trans bl2.size bz.size) (.cells #[.bool s3, .slice A3 n3 c3] 24)
  have bw := bz.alloc bz.size (.cells #[.bool s3, .slice A3 n3 c3] 24)
  have x3 := Box.new wc (.bool s3) (.slice A3 n3 c3)
  replace nm3 := nm3.below ((Below.refl _ _).alloc (Nat.le_refl _) (.cells #[.bool s3, .slice A3 n3 c3] 24))
  replace x1 := x1.below' bw
  replace nm1 := nm1.below bw
  replace x2 := x2.below' bw
  replace nm2 := nm2.below bw
  go_wp2_with fail
  obtain ⟨r, hr⟩ : ∃ r, r = wc.heap.size := ⟨_, rfl⟩
  rw [← hr] at x3 ⊢
  generalize wc.alloc (.cells #[.bool s3, .slice A3 n3 c3] 24) = W3 at *
  clear bl2 hba hbb hbc hr bz bw
  have K0 : Three w p q r s1 s2 s3 A1 A2 A3 n1 c1 n2 c2 n3 c3 (x + y) (x - y) (x * y) W3 := ⟨bl3, x1, x2, x3, nm1, nm2, nm3⟩
  clear bl3 x1 x2 x3 nm1 nm2 nm3
  refine (of_any _ x (by omega) (by omega)).mono ?_
  rintro e wa ⟨_, rfl, ⟨sa, Aa, na, ca, rfl, hsa, hoa⟩, hba⟩
  go_wp2_with fail
  refine (of_any wa y (by omega) (by omega)).mono ?_
  rintro e wb ⟨_, rfl, ⟨sb, Ab, nb, cb, rfl, hsb, hob⟩, hbb⟩
  go_wp2_with fail
  refine (cmp_z wb sa sb Aa Ab na ca nb cb _ _ ((Nm.of_own hsa hoa).below hbb) (Nm.of_own hsb hob) TX.out TY.out).mono ?_
  rintro e wc ⟨rfl, hbc⟩
  have K := ((K0.below hba).below hbb).below hbc
  clear K0 hba hbb hbc hsa hoa hsb hob
  have k1 := K.x1.c0
  have k2 := K.x1.c1
  have k3 := K.x2.c0
  have k4 := K.x2.c1
  have k5 := K.x3.c0
  have k6 := K.x3.c1
  have dl : decide (cmpZ x y < 0) = decide (x < y) := by unfold cmpZ; by_cases e : x < y <;> by_cases e' : y < x <;> simp [e, e']
  have de : (cmpZ x y == 0) = (x == y) := by unfold cmpZ; by_cases e : x < y <;> by_cases e' : y < x <;> simp [e, e'] <;> omega
  go_wp2
  have e1 : IntKind.i64.wrap (x + y) = x + y := IntWalk.i64_in _ (by omega)
  have e2 : IntKind.i64.wrap (x - y) = x - y := IntWalk.i64_in _ (by omega)
  have e3 : IntKind.i64.wrap (x * y) = x * y := IntWalk.i64_in _ (by omega)
  have e4 : IntKind.i64.wrap (-x) = -x := IntWalk.i64_in _ (by omega)
  go_region_held3 (fun w' => w'.cell? ⟨p, 0, none⟩ = some (.bool s1) ∧ w'.cell? ⟨p, 1, none⟩ = some (.slice A1 n1 c1) ∧ w'.cell? ⟨q, 0, none⟩ = some (.bool s2) ∧ w'.cell? ⟨q, 1, none⟩ = some (.slice A2 n2 c2) ∧ w'.cell? ⟨r, 0, none⟩ = some (.bool s3) ∧ w'.cell? ⟨r, 1, none⟩ = some (.slice A3 n3 c3))
    (first | exact ⟨k1, k2, k3, k4, k5, k6⟩ | exact ⟨K.x1.c0, K.x1.c1, K.x2.c0, K.x2.c1, K.x3.c0, K.x3.c1⟩)
    (first
      | (go_at_call 26; refine (of_any _ _ (by omega) (by omega)).mono ?_; rintro e vo ⟨_, rfl, ⟨so, Ao, no, co, rfl, hso, hoo⟩, hbo⟩; have K := Three.below (by first | exact K | exact K.drew) hbo)
      | (go_at_call 20; refine (same_z _ _ _ _ _ _ _ _ _ _ _ (by first | exact K.m1 | exact K.m2 | exact K.m3 | exact (Nm.of_own hsn hon).below hbo) (by exact Nm.of_own hso hoo)).mono ?_; rintro e vs ⟨rfl, hbs⟩; have K := Three.below (by first | exact K | exact K.drew) hbs)
      | (go_at_call 19; refine (neg_z _ _ _ _ _ _ (by exact Nm.of_own hso hoo) TX.out).mono ?_; rintro e vn ⟨_, rfl, ⟨sn, An, nn, cn, rfl, hsn, hon⟩, hbn⟩; have K := Three.below (by first | exact K | exact K.drew) hbn)
      | (go_at_call 9; refine (awake_any _).mono ?_; rintro e vw ⟨rfl, hbw⟩; have K := Three.below (by first | exact K | exact K.drew) hbw))
  go_wp2
  go_ret
  exact ⟨rfl, K.bl⟩

end Go.Proofs.Ytlmojomnebjhaaa
