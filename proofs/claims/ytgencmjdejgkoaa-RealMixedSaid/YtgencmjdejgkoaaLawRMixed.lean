/-
  THE LAW RealMixed.
-/
import Derived.Test.YtgencmjdejgkoaaLawRMixA
namespace Go.Proofs.Ytgencmjdejgkoaa
open Go.RowKit

/-- The number z is compared with b: the answer is r. -/
def Cn (z b r : Int) : Prop := ∀ (w : World) (s : Bool) (A : Option Addr) (n c : Nat), Nm w s A n c z → Calls Try.prog 28 #[.agg #[.bool s, .slice A n c], .int .u64 b] w (IntPost w r)
theorem cn_of {z b r : Int} (ht : z.natAbs < Lm.top) (h : cmpNumZ z b.toNat = r) : Cn z b r := fun w s A n c hn => by
  have := cmpNum_z w s A n c z hn ht b
  rwa [h] at this

set_option maxRecDepth 100000 in
set_option maxHeartbeats 8000000 in
theorem realMixed_at (m a b A B C D z cz p q F G : Int) (hlow : ∀ w, Calls Try.prog 31 #[.int .i64 m, .int .i64 18014398509481984] w fun e w' => e = .returned (.int .i64 (z + 9007199254740992)) ∧ w = w')
    (hz : -9007199254740992 ≤ z) (hz' : z < 9007199254740992)
    (d1 : ∀ w, Calls Try.prog 19 #[.int .u64 a] w fun e w' => e = .returned (.int .u64 A) ∧ w = w')
    (d2 : ∀ w, Calls Try.prog 19 #[.int .u64 b] w fun e w' => e = .returned (.int .u64 B) ∧ w = w')
    (dc : ∀ w, Calls Try.prog 18 #[.int .u64 A, .int .u64 B] w fun e w' => e = .returned (.int .i64 cz) ∧ w = w')
    (hsw : (0 < cz ∧ Hid (C = B ∧ D = A)) ∨ (¬ 0 < cz ∧ Hid (C = A ∧ D = B)))
    (hpq : Hid (p = 1 ∧ q = 1 ∨ p = 1 ∧ q = -1 ∨ p = -1 ∧ q = -1))
    (k1 : Cn z C p) (k2 : Cn z D q) (k3 : Cn z F (-1)) (k4 : Cn z G 1) (k5 : Cn z 9221120237041090561 (-1)) (k6 : Cn z 9218868437227405312 (-1)) (k7 : Cn z 18442240474082181120 1)
    (ho : ∀ (w : World) (s : Bool) (A : Option Addr) (n c : Nat), Nm w s A n c z → Calls Try.prog 26 #[.agg #[.bool s, .slice A n c]] w fun e w' => e = .returned (.int .u64 F) ∧ Below w.heap.size w w')
    (hF : floatOfInt .f64 z = F.toNat) (hs : (FloatKind.f64.format.order F.toNat F.toNat != some .eq) = false)
    (hnx : ∀ w, Calls Try.prog 34 #[.float .f64 F.toNat, .float .f64 18442240474082181120] w fun e w' => e = .returned (.float .f64 G.toNat) ∧ w = w') (hG : ((G.toNat : Nat) : Int) = G) (w : World) :
    Calls Try.prog 6 #[.int .i64 m, .int .u64 a, .int .u64 b] w fun e w' => e = .returned (.bool true) ∧ Below w.heap.size w w' := by
  have c1 := call_frombits
  have c2 := call_bits
  rcases hsw with ⟨hc, hcd⟩ | ⟨hc, hcd⟩
  all_goals
    obtain ⟨rfl, rfl⟩ := hcd.out
    rcases hpq.out with ⟨rfl, rfl⟩ | ⟨rfl, rfl⟩ | ⟨rfl, rfl⟩
  all_goals
    clear hpq hcd
    go_enter Try.func6, Try.ntmps6
    go_wp2_with fail
    refine (hlow _).mono ?_
    rintro e w' ⟨rfl, rfl⟩
    go_wp2_with fail
    refine (refOf_any w z (by omega) (by omega)).mono ?_
    rintro e w1 ⟨_, rfl, ⟨s1, A1, n1, c3, rfl, hs1, ho1⟩, hb1⟩
    go_wp2_with fail
    have hbx := Box.new w1 (.bool s1) (.slice A1 n1 c3)
    have hn1 : Nm _ s1 A1 n1 c3 z := (Nm.of_own hs1 ho1).below ((Below.refl _ _).alloc (Nat.le_refl _) (.cells #[.bool s1, .slice A1 n1 c3] 31))
    have hb0 := hb1.alloc hb1.size (.cells #[.bool s1, .slice A1 n1 c3] 31)
    obtain ⟨P, hP⟩ : ∃ P, P = w1.heap.size := ⟨_, rfl⟩
    rw [← hP] at hbx ⊢
    generalize w1.alloc (.cells #[.bool s1, .slice A1 n1 c3] 31) = W at *
    clear hP hs1 ho1 hb1
    refine (d1 _).mono ?_
    rintro e w' ⟨rfl, rfl⟩
    go_wp2_with fail
    refine (d2 _).mono ?_
    rintro e w' ⟨rfl, rfl⟩
    go_wp2_with fail
    refine (dc _).mono ?_
    rintro e w' ⟨rfl, rfl⟩
    go_wp2_with fail
    have q0 : Box W.drew P (.bool s1) (.slice A1 n1 c3) := hbx
    have r0 : Nm W.drew s1 A1 n1 c3 z := hn1
    have y0 := hbx.c0
    have y1 := hbx.c1
    have e0 := hb0.drew
    go_region_held3 (fun w' => w'.cell? ⟨P, 0, none⟩ = some (.bool s1) ∧ w'.cell? ⟨P, 1, none⟩ = some (.slice A1 n1 c3))
      (first | exact ⟨y0, y1⟩ | exact ⟨q0.c0, q0.c1⟩ | exact ⟨q1.c0, q1.c1⟩ | exact ⟨q2.c0, q2.c1⟩)
      (first
        | (go_at_call 28; have r0' := r0; clear r0; refine (k1 _ s1 A1 n1 c3 (by exact r0')).mono ?_; rintro e v1 ⟨rfl, hv1⟩; have q1 := q0.below' hv1; have r1 := r0'.below hv1; have e1 := e0.trans (hv1.mono e0.size); clear r0')
        | (go_at_call 28; have r1' := r1; clear r1; refine (k2 _ s1 A1 n1 c3 (by exact r1')).mono ?_; rintro e v2 ⟨rfl, hv2⟩; have q2 := q1.below' hv2; have r2 := r1'.below hv2; have e2 := e1.trans (hv2.mono e1.size); clear r1'))
    clear y0 y1 q0 q1
    have y0 := q2.c0
    have y1 := q2.c1
    go_wp2_with fail
    refine (ho _ s1 A1 n1 c3 r2).mono ?_
    rintro e v3 ⟨rfl, hv3⟩
    go_wp2_with fail
    refine (inf_neg _).mono ?_
    rintro e w' ⟨rfl, rfl⟩
    go_wp2_with fail
    refine (hnx _).mono ?_
    rintro e w' ⟨rfl, rfl⟩
    have q3 := q2.below' hv3
    have r3 := r2.below hv3
    have e3 := e2.trans (hv3.mono e2.size)
    clear y0 y1 r2 q2
    have y0 := q3.c0
    have y1 := q3.c1
    go_wp2_with fail
    refine (k3 _ s1 A1 n1 c3 r3).mono ?_
    rintro e v4 ⟨rfl, hv4⟩
    have q4 := q3.below' hv4
    have r4 := r3.below hv4
    have e4 := e3.trans (hv4.mono e3.size)
    clear y0 y1 r3 q3
    have y0 := q4.c0
    have y1 := q4.c1
    go_wp2_with fail
    refine (k4 _ s1 A1 n1 c3 r4).mono ?_
    rintro e v5 ⟨rfl, hv5⟩
    have q5 := q4.below' hv5
    have r5 := r4.below hv5
    have e5 := e4.trans (hv5.mono e4.size)
    clear y0 y1 r4 q4
    have y0 := q5.c0
    have y1 := q5.c1
    go_wp2_with fail
    refine (k5 _ s1 A1 n1 c3 r5).mono ?_
    rintro e v6 ⟨rfl, hv6⟩
    have q6 := q5.below' hv6
    have r6 := r5.below hv6
    have e6 := e5.trans (hv6.mono e5.size)
    clear y0 y1 r5 q5
    have y0 := q6.c0
    have y1 := q6.c1
    go_wp2_with fail
    refine (k6 _ s1 A1 n1 c3 r6).mono ?_
    rintro e v7 ⟨rfl, hv7⟩
    have q7 := q6.below' hv7
    have r7 := r6.below hv7
    have e7 := e6.trans (hv7.mono e6.size)
    clear y0 y1 r6 q6
    have y0 := q7.c0
    have y1 := q7.c1
    go_wp2_with fail
    refine (k7 _ s1 A1 n1 c3 r7).mono ?_
    rintro e v8 ⟨rfl, hv8⟩
    have q8 := q7.below' hv8
    have r8 := r7.below hv8
    have e8 := e7.trans (hv8.mono e7.size)
    clear y0 y1 r7 q7
    go_wp2_with fail
    refine (awake_flt _).mono ?_
    rintro e v9 ⟨rfl, hv9⟩
    go_wp2
    go_ret
    exact ⟨rfl, e8.trans (hv9.mono e8.size)⟩

theorem realMixed_walk (m a b : Int) (hm : (Lit.int .i64 m).wf = true) (h1 : U64 a) (h2 : U64 b) (w : World) :
    Calls Try.prog 6 #[.int .i64 m, .int .u64 a, .int .u64 b] w fun e w' => e = .returned (.bool true) ∧ Below w.heap.size w w' := by
  have ha := cl_clean h1
  have hb := cl_clean h2
  have hlow := fun w => low_i w m 18014398509481984 hm (by decide) (by decide)
  have b1 := Int.emod_nonneg (m % 18446744073709551616) (show (18014398509481984 : Int) ≠ 0 by decide)
  have b2 := Int.emod_lt_of_pos (m % 18446744073709551616) (show (0 : Int) < 18014398509481984 by decide)
  obtain ⟨z, hz⟩ : ∃ z, m % 18446744073709551616 % 18014398509481984 = z + 9007199254740992 := ⟨m % 18446744073709551616 % 18014398509481984 - 9007199254740992, by omega⟩
  rw [hz] at hlow b1 b2
  have z1 : -9007199254740992 ≤ z ∧ z < 9007199254740992 := by omega
  have ht : z.natAbs < Lm.top := by have := Lm.top_ge; omega
  have d1 := fun w => clean_any w a h1
  have d2 := fun w => clean_any w b h2
  have hF : (((ofZ z : Nat) : Int)).toNat = ofZ z := Int.toNat_natCast _
  have hG : (((nextN (ofZ z) NINF : Nat) : Int)).toNat = nextN (ofZ z) NINF := Int.toNat_natCast _
  have hne : Fl.si (ofZ z) ≠ Fl.si NINF := by
    rw [ofZ_si, ninf_si]
    have e53 : Fl.B = 4503599627370496 := rfl
    have eI : Fl.INF = 9218868437227405312 := rfl
    have := (Fl.rep_val (N := z.natAbs) (Fl.rep_small (by omega))).2
    unfold Fl.sgnd
    split <;> omega
  have hfin : ∀ C D : Int, cmpI C D ≤ 0 → (0 < cmpI (cleanI a) (cleanI b) ∧ Hid (C = cleanI b ∧ D = cleanI a)) ∨ (¬ 0 < cmpI (cleanI a) (cleanI b) ∧ Hid (C = cleanI a ∧ D = cleanI b)) → Calls Try.prog 6 #[.int .i64 m, .int .u64 a, .int .u64 b] w fun e w' => e = .returned (.bool true) ∧ Below w.heap.size w w' := by
    intro C D hle hsw
    exact realMixed_at m a b _ _ C D z _ (cmpNumZ z C.toNat) (cmpNumZ z D.toNat) ((ofZ z : Nat) : Int) ((nextN (ofZ z) NINF : Nat) : Int) hlow z1.1 z1.2 d1 d2 (fun w => fCmp_any w _ _ ha.u hb.u) hsw (Lib.hid (mixed_mono z hle)) (cn_of ht rfl) (cn_of ht rfl)
      (cn_of ht (by rw [hF]; exact mixed_own z1)) (cn_of ht (by rw [hG]; exact below_lt z1)) (cn_of ht (cmpNumZ_nan z nan_NAN)) (cn_of ht (mixed_inf z1)) (cn_of ht (mixed_ninf z1))
      (fun w s A n c h => of_z w s A n c z h ht) (by rw [hF]; exact floatOf_z z) (by rw [hF, order_self]; exact ofZ_nan z)
      (fun w => by rw [hF, hG]; exact next_any w (ofZ z) NINF (ofZ_lt z) ninf_lt (ofZ_nan z) ninf_nan hne) (by rw [hG]) w
  by_cases h : 0 < cmpI (cleanI a) (cleanI b)
  · refine hfin (cleanI b) (cleanI a) ?_ (Or.inl ⟨h, Lib.hid ⟨rfl, rfl⟩⟩)
    rw [cmpI_anti (cleanI a) (cleanI b)]; omega
  · exact hfin (cleanI a) (cleanI b) (by omega) (Or.inr ⟨h, Lib.hid ⟨rfl, rfl⟩⟩)
end Go.Proofs.Ytgencmjdejgkoaa
