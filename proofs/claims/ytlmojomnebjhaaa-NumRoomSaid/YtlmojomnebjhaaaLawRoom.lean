/-
  beehivelaw1.NumRoom RETURNS TRUE, WHATEVER THE TWO INTEGERS ARE: its walk.
-/
import Derived.Test.YtlmojomnebjhaaaAwake
import Derived.Test.YtlmojomnebjhaaaRoomN
namespace Go.Proofs.Ytlmojomnebjhaaa
open Go.RowKit

/-- What Low leaves. -/
def LowPost (w : World) (m : Nat) (e : Ending) (w' : World) : Prop := ∃ r : Nat, r < m ∧ e = .returned (.int .i64 r) ∧ w = w'
theorem low_val (x : Int) (m : Nat) (hm : 0 < m) (hm' : m ≤ 100000) : ∃ r : Nat, r < m ∧ wrap64 ((IntKind.u64.wrap x).tmod m) = (r : Int) := by
  have h0 : 0 ≤ IntKind.u64.wrap x := by rw [IntKind.wrap_u64]; omega
  generalize IntKind.u64.wrap x = y at *
  have h1 : y.tmod m = y % m := Int.tmod_eq_emod_of_nonneg h0
  have h2 := Int.emod_nonneg y (show (m : Int) ≠ 0 by omega)
  have h3 := Int.emod_lt_of_pos y (show (0 : Int) < m by omega)
  rw [h1]
  generalize y % (m : Int) = z at *
  exact ⟨z.toNat, by omega, by simp only [wrap64]; omega⟩
theorem low_any (x : Int) (m : Nat) (hm : 0 < m) (hm' : m ≤ 100000) (w : World) :
    Calls Try.prog 30 #[.int .i64 x, .int .i64 m] w (LowPost w m) := by
  obtain ⟨r, h1, h2⟩ := low_val x m hm hm'
  have H2 := Lib.hid h2
  clear h2
  go_enter Try.func30, Try.ntmps30
  go_wp2
  go_ret
  exact ⟨r, h1, by rw [← H2.out]; rfl, rfl⟩

theorem room_big {N many j : Nat} (hN : 0 < N) (hj : j ≤ many) (h : ¬ N * 2 ^ j < Lm.top) : 256 < many + Lm.bl N := by
  have h1 : ¬ N * 2 ^ many < Lm.top := fun h2 => h (Nat.lt_of_le_of_lt (Nat.mul_le_mul_left N (Nat.pow_le_pow_right (by decide) hj)) h2)
  have h3 : ¬ many + Lm.bl N ≤ 256 := fun h2 => h1 ((Lm.room_fits N many hN).2 h2)
  omega

/-- Two variables that hold numbers of the call's own. -/
structure Two (w W : World) (p q : Nat) (s sy : Bool) (A Ay : Option Addr) (n c ny cy : Nat) (z zy : Int) : Prop where
  bl : Below w.heap.size w W
  bx : Box W p (.bool s) (.slice A n c)
  bq : Box W q (.bool sy) (.slice Ay ny cy)
  ne : p ≠ q
  ox : Own W w.heap.size A n c (Lm.digits z.natAbs)
  oy : Own W w.heap.size Ay ny cy (Lm.digits zy.natAbs)
section
variable {w v : World} {p g : Nat} {s sy : Bool} {A Ay : Option Addr} {n c ny cy : Nat} {z zy : Int} {x y : Value}
theorem two_new (hb : Below w.heap.size w v) (bx : Box v p (.bool s) (.slice A n c)) (ox : Own v w.heap.size A n c (Lm.digits z.natAbs)) (oy : Own v w.heap.size Ay ny cy (Lm.digits zy.natAbs)) :
    Two w (v.alloc (.cells #[.bool sy, .slice Ay ny cy] 24)) p v.heap.size s sy A Ay n c ny cy z zy :=
  ⟨hb.alloc hb.size _, bx.alloc _, Box.new v _ _, by have := bx.lt; omega, ox.below ((Below.refl _ _).alloc (Nat.le_refl _) _), oy.below ((Below.refl _ _).alloc (Nat.le_refl _) _)⟩
theorem two_set (hb : Below w.heap.size w v) (bx : Box v p (.bool s) (.slice A n c)) (ne : p ≠ g) (bg : Box v g x y) (hg : w.heap.size ≤ g) (ox : Own v w.heap.size A n c (Lm.digits z.natAbs)) (oy : Own v w.heap.size Ay ny cy (Lm.digits zy.natAbs)) :
    Two w ((v.setCell ⟨g, 0, none⟩ (.bool sy)).setCell ⟨g, 1, none⟩ (.slice Ay ny cy)) p g s sy A Ay n c ny cy z zy :=
  ⟨(hb.setCell (p := ⟨g, 0, none⟩) hg _).setCell (p := ⟨g, 1, none⟩) hg _, (bx.far (p := ⟨g, 0, none⟩) ne _).far (p := ⟨g, 1, none⟩) ne _, (bg.set0 _).set1 _, ne, (ox.box bg 0 _).box (bg.set0 _) 1 _, (oy.box bg 0 _).box (bg.set0 _) 1 _⟩
end

set_option maxHeartbeats 4000000 in
theorem numRoom_walk (a0 a1 : Int) (w : World) :
    Calls Try.prog 6 #[.int .i64 a0, .int .i64 a1] w fun e w' => e = .returned (.bool true) ∧ Below w.heap.size w w' := by
  go_enter Try.func6, Try.ntmps6
  go_wp2_with fail
  refine (low_any a0 1000 (by decide) (by decide) w).mono ?_
  rintro e w' ⟨r0, hr0, rfl, rfl⟩
  go_wp2_with fail
  refine (low_any a1 300 (by decide) (by decide) w).mono ?_
  rintro e w' ⟨many, hmany, rfl, rfl⟩
  go_wp2_with fail
  obtain ⟨N, hN1, hN2, hN3⟩ : ∃ N : Nat, 0 < N ∧ N ≤ 1000 ∧ 1 + (r0 : Int) = (N : Int) := ⟨1 + r0, by omega, by omega, by omega⟩
  rw [hN3]
  clear hN3
  go_loop [5, 6] (fun b i => ∃ (c k : Nat), k ≤ 1000 ∧ c ≤ 10 ∧ i = .int .i64 (k : Int) ∧ b = .int .i64 ((many : Int) + (c : Int)) ∧ Hid (c + Lm.bl k = Lm.bl N)) (fun _ i => (intOf i).toNat)
  case atStart => exact ⟨0, N, hN2, by omega, rfl, by simp, Lib.hid (Nat.zero_add _)⟩
  case round =>
    obtain ⟨c, k, hk, hc, rfl, rfl, hbl⟩ := hrel
    by_cases h0 : 0 < k
    · have hb2 := Lib.hid (show 1 + Lm.bl (k / 2) = Lm.bl k from (Lm.bl_pos (by omega)).symm)
      have hN10 := Lib.hid (Lm.bl_le N 10 (by omega))
      go_wp2
      go_round
      case rel => exact ⟨c + 1, k / 2, by omega, by have h1 := hb2.out; have h2 := hbl.out; have h3 := hN10.out; omega, by go_num, by go_num, Lib.hid (by have h1 := hb2.out; have h2 := hbl.out; omega)⟩
      case measure => simp [intOf]; omega
    · have hk0 : k = 0 := by omega
      subst hk0
      have hcN := Lib.hid (show c = Lm.bl N by have h := hbl.out; rw [Lm.bl_zero] at h; omega)
      have hNi : -9223372036854775808 ≤ (N : Int) ∧ (N : Int) ≤ 9223372036854775807 := by omega
      go_wp2_with fail
      refine (of_any w N hNi.1 hNi.2).mono ?_
      rintro e w1 ⟨_, rfl, ⟨s1, A1, n1, c1, rfl, hs1, ho1⟩, hb1⟩
      go_wp2_with fail
      have hbx := Box.new w1 (.bool s1) (.slice A1 n1 c1)
      have hb0 := hb1.alloc hb1.size (.cells #[.bool s1, .slice A1 n1 c1] 24)
      have ho := ho1.below ((Below.refl _ _).alloc (Nat.le_refl _) (.cells #[.bool s1, .slice A1 n1 c1] 24))
      have hpp : w.heap.size ≤ w1.heap.size := hb1.size
      obtain ⟨p, hp⟩ : ∃ p, p = w1.heap.size := ⟨_, rfl⟩
      rw [← hp] at hbx hpp ⊢
      generalize w1.alloc (.cells #[.bool s1, .slice A1 n1 c1] 24) = W at *
      clear ho1 hb1 hp
      go_loopw [8, 9] (fun u i w' => ∃ (j : Nat) (b s : Bool) (A : Option Addr) (n c : Nat) (z : Int), j ≤ many ∧ i = .int .i64 (j : Int) ∧ u = .bool b ∧ Below w.heap.size w w' ∧ Box w' p (.bool s) (.slice A n c) ∧ Hid (s = decide (z < 0)) ∧ Own w' w.heap.size A n c (Lm.digits z.natAbs) ∧
        Hid (b = decide (N * 2 ^ j < Lm.top)) ∧ Hid (z = if N * 2 ^ j < Lm.top then ((N * 2 ^ j : Nat) : Int) else 0)) (fun _ i _ => many - (intOf i).toNat)
      case atStart =>
        have hNt : N * 2 ^ 0 < Lm.top := by have := Lm.top_ge; omega
        exact ⟨0, true, s1, A1, n1, c1, N, Nat.zero_le _, rfl, rfl, hb0, hbx, hs1, ho, Lib.hid (decide_eq_true hNt).symm, Lib.hid (by rw [if_pos hNt]; simp)⟩
      case round =>
        obtain ⟨j, b, s, A, n, c', z, hj, rfl, rfl, hbl2, hbx2, hs2, ho2, hB, hZ⟩ := hrel
        by_cases hjm : j < many
        · cases b with
          | true =>
            have hNj : N * 2 ^ j < Lm.top := of_decide_eq_true hB.out.symm
            have hz : z = ((N * 2 ^ j : Nat) : Int) := by rw [hZ.out, if_pos hNj]
            have hzt := Lib.hid (show z.natAbs < Lm.top by rw [hz, Int.natAbs_natCast]; exact hNj)
            have h2t := Lib.hid (show (2 : Int).natAbs < Lm.top by decide)
            have hzz := Lib.hid (show z + z = z * 2 by omega)
            have hz2 := Lib.hid (show z * 2 = ((N * 2 ^ (j + 1) : Nat) : Int) by rw [hz, Nat.pow_succ, ← Nat.mul_assoc]; omega)
            clear hNj hz
            have x0 := hbx2.c0
            have x1 := hbx2.c1
            go_wp2
            have ho' : Own wr.drew w.heap.size A n c' (Lm.digits z.natAbs) := ho2
            have hbx' : Box wr.drew p (.bool s) (.slice A n c') := hbx2
            have hplt := hbx2.lt
            have hneC : p ≠ wr.heap.size := by omega
            have hbd : Below w.heap.size w wr.drew := hbl2.drew
            have hsz0 : w.heap.size ≤ wr.heap.size := hbl2.size
            go_region_held3 (fun w' => w'.cell? ⟨p, 0, none⟩ = some (.bool s) ∧ w'.cell? ⟨p, 1, none⟩ = some (.slice A n c'))
              (first | exact ⟨x0, x1⟩ | exact ⟨hbx'.c0, hbx'.c1⟩ | exact ⟨(hbx'.alloc _).c0, (hbx'.alloc _).c1⟩ | exact ⟨((hbx'.far (p := ⟨_, 0, none⟩) hneB _).far (p := ⟨_, 1, none⟩) hneB _).c0, ((hbx'.far (p := ⟨_, 0, none⟩) hneB _).far (p := ⟨_, 1, none⟩) hneB _).c1⟩)
              (first
                | (go_at_call 26; refine (of_any wr.drew 2 (by decide) (by decide)).mono ?_; rintro e v1 ⟨_, rfl, ⟨so, Ao, no, co, rfl, hso, hoo⟩, hv1⟩; have ho' := ho'.below hv1; have hbx' := hbx'.below' hv1; have hbd := hbd.trans (hv1.mono hbd.size))
                | (go_at_call 26; refine (of_any (wr.drew.alloc (.cells #[.bool false, .slice none 0 0] 24)) 2 (by decide) (by decide)).mono ?_; rintro e v1 ⟨_, rfl, ⟨so, Ao, no, co, rfl, hso, hoo⟩, hvB⟩; have hqB : Box v1 wr.heap.size (.bool false) (.slice none 0 0) := (Box.new wr.drew (.bool false) (.slice none 0 0)).below' hvB; have hneB : p ≠ wr.heap.size := hneC; have hgeB : w.heap.size ≤ wr.heap.size := hsz0; have hv1 := ((Below.refl wr.drew.heap.size wr.drew).alloc (Nat.le_refl _) (.cells #[.bool false, .slice none 0 0] 24)).trans (hvB.mono (by simp)); have ho' := ho'.below hv1; have hbx' := hbx'.below' hv1; have hbd := hbd.trans (hv1.mono hbd.size); have z0 := hqB.c0; have z1 := hqB.c1; have z2 := hqB.f0; have z3 := hqB.f1)
                | (go_at_call 13; refine (mul_z v1 s so A Ao n c' no co z 2 (Nm.of_own hs2 ho') (Nm.of_own hso hoo) hzt.out h2t.out).mono ?_; rintro e v2 ⟨_, rfl, ⟨sy, Ay, ny, cy, rfl, hsy, hoy0⟩, hv2⟩; have hoy := hoy0.mono (base' := w.heap.size) hbd.size; have ho' := ho'.below hv2; have hbx' := hbx'.below' hv2; have hbd := hbd.trans (hv2.mono hbd.size); try (have hqB := hqB.below' hv2; have z0 := hqB.c0; have z1 := hqB.c1; have z2 := hqB.f0; have z3 := hqB.f1))
                | (go_at_call 13; have hbA := ((Below.refl v1.heap.size v1).alloc (Nat.le_refl _) (.cells #[.bool false, .slice none 0 0] 24)); refine (mul_z (v1.alloc (.cells #[.bool false, .slice none 0 0] 24)) s so A Ao n c' no co z 2 ((Nm.of_own hs2 ho').below hbA) ((Nm.of_own hso hoo).below hbA) hzt.out h2t.out).mono ?_; rintro e v2 ⟨_, rfl, ⟨sy, Ay, ny, cy, rfl, hsy, hoy0⟩, hvB⟩; have hqB := (Box.new v1 (.bool false) (.slice none 0 0)).below' hvB; have hneB : p ≠ v1.heap.size := (by have := hv1.size; simp at this; omega); have hgeB : w.heap.size ≤ v1.heap.size := hbd.size; have hv2 := hbA.trans (hvB.mono (by simp)); have hoy := hoy0.mono (base' := w.heap.size) (by have := hbd.size; simp; omega); have ho' := ho'.below hv2; have hbx' := hbx'.below' hv2; have hbd := hbd.trans (hv2.mono hbd.size); have z0 := hqB.c0; have z1 := hqB.c1; have z2 := hqB.f0; have z3 := hqB.f1))
            all_goals first
              | (have F := two_set hbd hbx' hneB hqB hgeB ho' hoy (sy := sy); obtain ⟨q, W2, hqq, hWW⟩ : ∃ q W2, q = v1.heap.size ∧ W2 = (v2.setCell ⟨v1.heap.size, 0, none⟩ (.bool sy)).setCell ⟨v1.heap.size, 1, none⟩ (.slice Ay ny cy) := ⟨_, _, rfl, rfl⟩; rw [← hWW, ← hqq]; rw [← hWW, ← hqq] at F; clear hWW hqq)
              | (have F := two_set hbd hbx' hneB hqB hgeB ho' hoy (sy := sy); obtain ⟨q, W2, hqq, hWW⟩ : ∃ q W2, q = wr.heap.size ∧ W2 = (v2.setCell ⟨wr.heap.size, 0, none⟩ (.bool sy)).setCell ⟨wr.heap.size, 1, none⟩ (.slice Ay ny cy) := ⟨_, _, rfl, rfl⟩; rw [← hWW, ← hqq]; rw [← hWW, ← hqq] at F; clear hWW hqq)
              | (have F := two_new hbd hbx' ho' hoy (sy := sy); obtain ⟨q, W2, hqq, hWW⟩ : ∃ q W2, q = v2.heap.size ∧ W2 = v2.alloc (.cells #[.bool sy, .slice Ay ny cy] 24) := ⟨_, _, rfl, rfl⟩; rw [← hWW, ← hqq]; rw [← hWW, ← hqq] at F; clear hWW hqq)
            all_goals
              have y0 := F.bx.c0
              have y1 := F.bx.c1
              have nmx := Nm.of_own hs2 F.ox
              go_wp2_with fail
              refine (add_z W2 s s A A n c' n c' z z nmx nmx hzt.out hzt.out).mono ?_
              rw [hzz.out]
              rintro e W3 ⟨_, rfl, ⟨sz, Az, nz, cz, rfl, hsz, hoz⟩, hbz⟩
              have hbA := (Below.refl W3.heap.size W3).alloc (Nat.le_refl _) (.cells #[.bool sz, .slice Az nz cz] 24)
              have bq := (F.bq.below' hbz).below' hbA
              have bx := (F.bx.below' hbz).below' hbA
              have oy := (F.oy.below hbz).below hbA
              have nmz := (Nm.of_own hsz hoz).below hbA
              have bl := (F.bl.trans (hbz.mono F.bl.size)).trans (hbA.mono (Nat.le_trans F.bl.size hbz.size))
              have k0 := bq.c0
              have k1 := bq.c1
              go_wp2_with fail
              generalize W3.alloc (.cells #[.bool sz, .slice Az nz cz] 24) = W4 at *
              refine (same_z W4 sy sz Ay Az ny cy nz cz _ _ (Nm.of_own hsy oy) nmz).mono ?_
              rintro e W5 ⟨rfl, hb5⟩
              replace bq := bq.below' hb5
              replace bx := bx.below' hb5
              replace oy := oy.below hb5
              replace bl := bl.trans (hb5.mono bl.size)
              clear k0 k1 y0 y1
              have k0 := bq.c0
              have k1 := bq.c1
              have k2 := bx.c0
              have k3 := bx.c1
              have k4 := bx.f0
              have k5 := bx.f1
              go_wp2
              exact ⟨⟨j + 1, _, sy, Ay, ny, cy, _, by omega, by go_num, rfl, (bl.setCell (p := ⟨p, 0, none⟩) hpp _).setCell (p := ⟨p, 1, none⟩) hpp _, (bx.set0 _).set1 _, hsy, (oy.box bx 0 _).box (bx.set0 _) 1 _, Lib.hid (by rw [hz2.out]; unfold fits; rw [Int.natAbs_natCast]), Lib.hid (by rw [hz2.out]; unfold clip; rw [Int.natAbs_natCast])⟩, by simp [intOf]; omega⟩
          | false =>
            have hNj : ¬ N * 2 ^ j < Lm.top := of_decide_eq_false hB.out.symm
            have hz : z = 0 := by rw [hZ.out, if_neg hNj]
            have hn0 : n = 0 := by have h := ho2.2.1; rw [hz] at h; simpa [Lm.digits_zero] using h.symm
            have hbig := Lib.hid (room_big hN1 (Nat.le_of_lt hjm) hNj)
            have hbits : decide ((256 : Int) < (many : Int) + (c : Int)) = true := by rw [decide_eq_true_iff]; have h1 := hbig.out; have h2 := hcN.out; omega
            clear hNj hz
            subst hn0
            have x0 := hbx2.c0
            have x1 := hbx2.c1
            go_wp2_with fail
            refine (awake_any wr).mono ?_
            rintro e w9 ⟨rfl, hb9⟩
            go_wp2
            go_ret
            exact ⟨rfl, hbl2.trans (hb9.mono hbl2.size)⟩
        · have hjj : j = many := by omega
          subst hjj
          cases b with
          | true =>
            have hNj : N * 2 ^ j < Lm.top := of_decide_eq_true hB.out.symm
            have hz : z = ((N * 2 ^ j : Nat) : Int) := by rw [hZ.out, if_pos hNj]
            have hsm := Lib.hid ((Lm.room_fits N j hN1).1 hNj)
            have hbits : decide ((256 : Int) < (j : Int) + (c : Int)) = false := by rw [decide_eq_false_iff_not]; have h1 := hsm.out; have h2 := hcN.out; omega
            have hlen : (((n : Nat) : Int) == ((j : Int) + (c : Int) + 31) / 32) = true := by
              have h := ho2.2.1
              obtain ⟨g1, g2, g3⟩ := Lm.room_bits N j hN1
              rw [hz, Int.natAbs_natCast, Lm.digits_bits g1 g2 g3] at h
              have h2 := hcN.out
              rw [beq_iff_eq]
              omega
            clear hNj hz
            have x0 := hbx2.c0
            have x1 := hbx2.c1
            go_wp2_with fail
            refine (awake_any wr).mono ?_
            rintro e w9 ⟨rfl, hb9⟩
            go_wp2
            go_ret
            exact ⟨rfl, hbl2.trans (hb9.mono hbl2.size)⟩
          | false =>
            have hNj : ¬ N * 2 ^ j < Lm.top := of_decide_eq_false hB.out.symm
            have hz : z = 0 := by rw [hZ.out, if_neg hNj]
            have hn0 : n = 0 := by have h := ho2.2.1; rw [hz] at h; simpa [Lm.digits_zero] using h.symm
            have hbig := Lib.hid (room_big hN1 (Nat.le_refl j) hNj)
            have hbits : decide ((256 : Int) < (j : Int) + (c : Int)) = true := by rw [decide_eq_true_iff]; have h1 := hbig.out; have h2 := hcN.out; omega
            clear hNj hz
            subst hn0
            have x0 := hbx2.c0
            have x1 := hbx2.c1
            go_wp2_with fail
            refine (awake_any wr).mono ?_
            rintro e w9 ⟨rfl, hb9⟩
            go_wp2
            go_ret
            exact ⟨rfl, hbl2.trans (hb9.mono hbl2.size)⟩
end Go.Proofs.Ytlmojomnebjhaaa
