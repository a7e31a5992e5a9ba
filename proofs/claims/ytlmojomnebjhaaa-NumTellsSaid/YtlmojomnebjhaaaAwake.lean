import Derived.Test.YtlmojomnebjhaaaNumZ
namespace Go.Proofs.Ytlmojomnebjhaaa
open Go.RowKit

theorem lit_nm (w : World) : Nm (w.alloc (.cells #[.int .u32 0, .int .u32 0, .int .u32 65536] 40)) true (some ⟨w.heap.size, 0, none⟩) 3 3 ((-1099511627776 : Int) * 1099511627776) := by
  have hs : Lm.Small [0, 0, 65536] := by intro x hx; simp at hx; omega
  have hc : Lm.Canon [0, 0, 65536] := by intro _; decide
  have e : Lm.digits ((-1099511627776 : Int) * 1099511627776).natAbs = [0, 0, 65536] := by
    have := Lm.digits_val hs hc
    rw [← this]
    congr 1
  refine ⟨?_, Lib.hid rfl⟩
  rw [e]
  exact ⟨Lim.new w [0, 0, 65536] hs, by decide⟩

set_option maxHeartbeats 2000000 in
theorem awake_any (w : World) : Calls Try.prog 9 #[] w fun e w' => e = .returned (.bool true) ∧ Below w.heap.size w w' := by
  have ht := Lm.top_ge
  have t1 : (-1099511627776 : Int).natAbs < Lm.top := by omega
  have t2 : (1099511627776 : Int).natAbs < Lm.top := by omega
  have t3 : (-7 : Int).natAbs < Lm.top := by omega
  have t4 : ((-1099511627776 : Int) * 1099511627776).natAbs < Lm.top := by omega
  have T := Lib.hid (And.intro t1 (And.intro t2 (And.intro t3 t4)))
  clear ht t1 t2 t3 t4
  go_enter Try.func9, Try.ntmps9
  go_wp2_with fail
  refine (of_any w (-1099511627776) (by decide) (by decide)).mono ?_
  rintro e w1 ⟨_, rfl, ⟨s1, A1, n1, c1, rfl, hs1, ho1⟩, hb1⟩
  go_wp2_with fail
  refine (of_any w1 1099511627776 (by decide) (by decide)).mono ?_
  rintro e w2 ⟨_, rfl, ⟨s2, A2, n2, c2, rfl, hs2, ho2⟩, hb2⟩
  go_wp2_with fail
  refine (mul_z w2 s1 s2 A1 A2 n1 c1 n2 c2 _ _ ((Nm.of_own hs1 ho1).below hb2) (Nm.of_own hs2 ho2) T.out.1 T.out.2.1).mono ?_
  rw [clip_small T.out.2.2.2, fits_small T.out.2.2.2]
  rintro e w3 ⟨_, rfl, ⟨s3, A3, n3, c3, rfl, hs3, ho3⟩, hb3⟩
  go_wp2_with fail
  have hbx := Box.new w3 (.bool s3) (.slice A3 n3 c3)
  have hn3 : Nm _ s3 A3 n3 c3 _ := (Nm.of_own hs3 ho3).below ((Below.refl _ _).alloc (Nat.le_refl _) (.cells #[.bool s3, .slice A3 n3 c3] 24))
  have hb0 := ((hb1.trans (hb2.mono hb1.size)).trans (hb3.mono (Nat.le_trans hb1.size hb2.size))).alloc (Nat.le_trans hb1.size (Nat.le_trans hb2.size hb3.size)) (.cells #[.bool s3, .slice A3 n3 c3] 24)
  obtain ⟨p, hp⟩ : ∃ p, p = w3.heap.size := ⟨_, rfl⟩
  rw [← hp] at hbx ⊢
  generalize w3.alloc (.cells #[.bool s3, .slice A3 n3 c3] 24) = W at *
  clear hp hb1 hb2 hb3 ho1 ho2 ho3 hs1 hs2
  refine (of_any W (-7) (by decide) (by decide)).mono ?_
  rintro e w4 ⟨_, rfl, ⟨s4, A4, n4, c4, rfl, hs4, ho4⟩, hb4⟩
  go_wp2_with fail
  refine (small_z w4 s4 A4 n4 c4 _ (Nm.of_own hs4 ho4) T.out.2.2.1).mono ?_
  rw [show smallB (-7) = true from rfl, if_pos rfl]
  rintro e w5 ⟨rfl, hb5⟩
  replace hbx := (hbx.below' hb4).below' hb5
  replace hn3 := (hn3.below hb4).below hb5
  replace hb0 := (hb0.trans (hb4.mono hb0.size)).trans (hb5.mono (Nat.le_trans hb0.size hb4.size))
  clear hb4 hb5 ho4 hs4
  have x0 := hbx.c0
  have x1 := hbx.c1
  go_wp2
  have q0 := Box.alloc (w := w5.drew) hbx (.cells #[.int .u32 0, .int .u32 0, .int .u32 65536] 40)
  have hn6 : Nm (w5.drew.alloc (.cells #[.int .u32 0, .int .u32 0, .int .u32 65536] 40)) s3 A3 n3 c3 _ := Nm.below (w := w5.drew) hn3 ((Below.refl _ _).alloc (Nat.le_refl _) _)
  have hb6 : Below w5.heap.size w5 (w5.drew.alloc (.cells #[.int .u32 0, .int .u32 0, .int .u32 65536] 40)) := (Below.refl _ w5).drew.alloc (Nat.le_refl _) _
  have hl6 := lit_nm w5.drew
  go_region_held3 (fun w' => w'.cell? ⟨p, 0, none⟩ = some (.bool s3) ∧ w'.cell? ⟨p, 1, none⟩ = some (.slice A3 n3 c3))
    (first | exact ⟨x0, x1⟩ | exact ⟨q0.c0, q0.c1⟩ | exact ⟨q1.c0, q1.c1⟩ | exact ⟨q2.c0, q2.c1⟩ | exact ⟨q3.c0, q3.c1⟩ | exact ⟨q4.c0, q4.c1⟩)
    (first
      | (go_at_call 20; refine (same_z' _ s3 true A3 _ n3 c3 3 3 _ _ (by exact hn6) (by exact hl6) rfl).mono ?_; rintro e v1 ⟨rfl, hv1⟩; have q1 := q0.below' hv1; have hn7 := hn6.below hv1)
      | (go_at_call 24; refine (may_z _ s3 A3 n3 c3 _ (by exact hn7) T.out.2.2.2).mono ?_; rintro e v2 ⟨rfl, hv2⟩; have q2 := q1.below' hv2; have hn8 := hn7.below hv2)
      | (go_at_call 26; refine (of_any _ 0 (by decide) (by decide)).mono ?_; rintro e v3 ⟨_, rfl, ⟨s5, A5, n5, c5, rfl, hs5, ho5⟩, hv3⟩; have q3 := q2.below' hv3; have hn9 := hn8.below hv3)
      | (go_at_call 21; refine (cmp_z _ s3 s5 A3 A5 n3 c3 n5 c5 _ _ (by exact hn9) (by exact Nm.of_own hs5 ho5) T.out.2.2.2 (by decide)).mono ?_; rw [show cmpZ ((-1099511627776 : Int) * 1099511627776) 0 = -1 from rfl]; rintro e v4 ⟨rfl, hv4⟩; have q4 := q3.below' hv4))
  go_wp2
  go_ret
  refine ⟨rfl, ?_⟩
  have s0 := hb0.size
  have s1 := Nat.le_trans s0 hb6.size
  have s2 := Nat.le_trans s1 hv1.size
  have s3 := Nat.le_trans s2 hv2.size
  have s4 := Nat.le_trans s3 hv3.size
  exact ((((hb0.trans (hb6.mono s0)).trans (hv1.mono s1)).trans (hv2.mono s2)).trans (hv3.mono s3)).trans (hv4.mono s4)
end Go.Proofs.Ytlmojomnebjhaaa
