/-
  THE REFERENCE's Reader: Term.
-/
import Derived.Test.YtomohdfcggghoaaJ17
import Derived.Test.YtomohdfcggghoaaJ8
import Derived.Deep.RegionLaw
namespace Go.Proofs.Ytomohdfcggghoaa
open Go.RowKit

set_option maxRecDepth 100000 in
set_option maxHeartbeats 8000000 in
theorem rterm_step (f : Nat) (g : Nat) (A : Option Addr) (n c : Nat) (B : List Nat)
    (w : World) (z : Int) (p : Nat) (ih : 0 < p → ∀ (w : World) (a p : Nat), p ≤ f → a ≤ n → Rs w g A n c B (a : Int) false (p : Int) → Calls Try.prog 28 #[.pointer (some ⟨g, 0, none⟩)] w (RtP w g A n c B (Wr.dec false B f p a)))
    (hf : f ≤ 1000) (hp : p ≤ f + 1) (h : Rs w g A n c B z false (p : Int)) :
    Calls Try.prog 28 #[.pointer (some ⟨g, 0, none⟩)] w (RtP w g A n c B (Wr.decZ B (f + 1) p z)) := by
  have IH := Lib.hid ih
  clear ih
  have hglt := h.bx.lt
  have hBs := h.by'.2.2.1
  have hBl : B.length = n := h.by'.1
  have hcap := h.cap
  have hnc := h.by'.2.1
  unfold maxLen at hcap
  obtain ⟨X, hX⟩ : ∃ X, X = Wr.decZ B (f + 1) p z := ⟨_, rfl⟩
  rw [← hX]
  unfold Wr.decZ at hX
  have hBL := Lib.hid hBl
  clear hBl
  have HX := Lib.hid hX
  clear hX
  have y3 := h.bx.c3
  have f3 := h.bx.fz 3
  have y3' := (h.alloc (.cells #[.int .i64 zeroR.k, .int .i64 zeroR.n, .bool zeroR.g, .slice zeroR.A zeroR.ln zeroR.lc, .int .u64 zeroR.u, .string zeroR.s, .slice zeroR.B zeroR.m zeroR.d] 28)).bx.c3
  have f3' := (h.alloc (.cells #[.int .i64 zeroR.k, .int .i64 zeroR.n, .bool zeroR.g, .slice zeroR.A zeroR.ln zeroR.lc, .int .u64 zeroR.u, .string zeroR.s, .slice zeroR.B zeroR.m zeroR.d] 28)).bx.fz 3
  obtain ⟨pz, hpz⟩ : ∃ pz : Int, pz = (p : Int) - 1 := ⟨_, rfl⟩
  have hw : IntKind.i64.wrap ((p : Int) - 1) = pz := by rw [IntKind.wrap_i64]; omega
  have d0 : Rs (w.setCell ⟨g, 3, none⟩ (.int .i64 ((p : Int) - 1))) g A n c B z false ((p : Int) - 1) := h.next (grown_set (World.grownBy.refl _ _)) (h.bx.set3 _)
  have g0 : w.grownBy (w.setCell ⟨g, 3, none⟩ (.int .i64 ((p : Int) - 1))) (some g) := grown_set (World.grownBy.refl _ _)
  have s0 : (w.setCell ⟨g, 3, none⟩ (.int .i64 ((p : Int) - 1))).heap.size = w.heap.size := by simp [World.setCell]
  have d1 := d0.alloc (.cells #[.int .i64 zeroR.k, .int .i64 zeroR.n, .bool zeroR.g, .slice zeroR.A zeroR.ln zeroR.lc, .int .u64 zeroR.u, .string zeroR.s, .slice zeroR.B zeroR.m zeroR.d] 28)
  have g1 := grown_tr g0 (World.grownBy_alloc _ (.cells #[.int .i64 zeroR.k, .int .i64 zeroR.n, .bool zeroR.g, .slice zeroR.A zeroR.ln zeroR.lc, .int .u64 zeroR.u, .string zeroR.s, .slice zeroR.B zeroR.m zeroR.d] 28) (some g))
  have K1 := Box7.new (w.setCell ⟨g, 3, none⟩ (.int .i64 ((p : Int) - 1))) zeroR
  rw [s0] at K1
  have s1 : ((w.setCell ⟨g, 3, none⟩ (.int .i64 ((p : Int) - 1))).alloc (.cells #[.int .i64 zeroR.k, .int .i64 zeroR.n, .bool zeroR.g, .slice zeroR.A zeroR.ln zeroR.lc, .int .u64 zeroR.u, .string zeroR.s, .slice zeroR.B zeroR.m zeroR.d] 28)).heap.size = w.heap.size + 1 := by rw [World.size_alloc, s0]
  go_enter Try.func28, Try.ntmps28
  clear hw hpz
  go_upto_if 21 with fail
  clear y3 f3 y3' f3' d0 g0 s0
  generalize (w.setCell ⟨g, 3, none⟩ (.int .i64 ((p : Int) - 1))).alloc (.cells #[.int .i64 zeroR.k, .int .i64 zeroR.n, .bool zeroR.g, .slice zeroR.A zeroR.ln zeroR.lc, .int .u64 zeroR.u, .string zeroR.s, .slice zeroR.B zeroR.m zeroR.d] 28) = W1 at *
  go_cut [22] from 21 to 24 (fun _ wx => Box7 wx w.heap.size zeroR ∧ w.grownBy wx (some g) ∧ wx.heap.size = w.heap.size + 1 ∧ ((p = 0 ∧ ∃ a q, Rs wx g A n c B a true q) ∨ (0 < p ∧ Rs wx g A n c B z false ((p : Int) - 1))))
  case first =>
    by_cases p0 : p = 0
    · subst p0
      have f2 := d1.bx.fz 2
      have y2 := d1.bx.c2
      go_wp2
      go_meet
      exact ⟨blk_set K1 (by omega) 2 _, grown_set g1, by simpa [World.setCell] using s1, .inl ⟨trivial, _, _, d1.next (grown_set (World.grownBy.refl _ _)) (d1.bx.set2 true)⟩⟩
    · have hd : decide ((p : Int) - 1 < 0) = false := by rw [decide_eq_false_iff_not]; omega
      have hd' : ¬ ((p : Int) - 1 < 0) := by omega
      go_wp2
      go_meet
      exact ⟨K1, g1, s1, .inr ⟨by omega, d1⟩⟩
  obtain ⟨K2, g2, s2, hor⟩ := hcut
  clear K1 g1 s1 d1
  generalize wc = W2 at *
  go_upto_region 4 with fail
  go_cut [3] from 25 to 28 (fun t wx => ∃ (L : Nat) (kz : Int), t = .pointer (some ⟨L, 0, none⟩) ∧ w.heap.size + 1 ≤ L ∧ wx.heap.size = L + 1 ∧ Box7 wx L ⟨kz, 0, false, none, 0, 0, 0, ⟨#[]⟩, none, 0, 0⟩ ∧ Box7 wx w.heap.size zeroR ∧ w.grownBy wx (some g) ∧ ((X = none ∧ kz = 0 ∧ ∃ a q, Rs wx g A n c B a true q) ∨ (∃ a p' : Nat, z = (a : Int) ∧ a + 1 ≤ n ∧ p = p' + 1 ∧ kz = ((Wr.val B a 1 : Nat) : Int) ∧ Rs wx g A n c B ((a + 1 : Nat) : Int) false (p' : Int))))
  case first =>
    by_cases hbad : p = 0 ∨ z < 0 ∨ n < 1 ∨ (n : Int) - 1 < z
    · have eX : X = none := by
        rw [HX.out]
        by_cases hz : z < 0
        · rw [if_pos hz]
        · rw [if_neg hz, Wr.dec, if_pos (by have := hBL.out; omega)]
      have hb2 : ∃ a q bad, Rs W2 g A n c B a bad q ∧ (bad = true ∨ a < 0 ∨ n < 1 ∨ (n : Int) - (1 : Nat) < a) := by
        rcases hor with ⟨_, a, q, hr⟩ | ⟨hp0, hr⟩
        · exact ⟨a, q, true, hr, .inl rfl⟩
        · exact ⟨z, _, false, hr, .inr (by omega)⟩
      obtain ⟨a2, q2, bad2, hr2, hbb⟩ := hb2
      have EX := Lib.hid eX
      clear eX hor
      go_wp2_with fail
      refine (rnum_bad W2 g A n c B a2 q2 bad2 1 hr2 (by omega) hbb 1 rfl).mono ?_
      rintro e w3 ⟨rfl, ⟨a3, q3, hr3⟩, hg3⟩
      have K3 : Box7 w3 w.heap.size zeroR := blk_keep K2 hg3 (by omega)
      have g3 := grown_tr g2 hg3
      have s3 := hg3.size
      have L3 := Box7.new w3 ⟨0, 0, false, none, 0, 0, 0, ⟨#[]⟩, none, 0, 0⟩
      go_wp2
      go_meet
      refine ⟨w3.heap.size, 0, rfl, by omega, by simp, L3, blk_keep K3 (World.grownBy_alloc w3 _ (some g)) (by omega), grown_tr g3 (World.grownBy_alloc w3 _ (some g)), .inl ⟨EX.out, rfl, a3, q3, hr3.alloc _⟩⟩
    · have hp0 : 0 < p := by omega
      have hr : Rs W2 g A n c B z false ((p : Int) - 1) := by
        rcases hor with ⟨h0, _⟩ | ⟨_, hr⟩
        · omega
        · exact hr
      obtain ⟨a, ha⟩ : ∃ a : Nat, z = (a : Int) := ⟨z.toNat, by omega⟩
      obtain ⟨p', hp'⟩ : ∃ p' : Nat, p = p' + 1 := ⟨p - 1, by omega⟩
      have hr' : Rs W2 g A n c B (a : Int) false (p' : Int) := by
        rw [← ha]
        have e : ((p : Int) - 1) = (p' : Int) := by omega
        rw [← e]
        exact hr
      have hv : Wr.val B a 1 < 256 := Wr.val_lt hBs a 1
      clear hor hr
      go_wp2_with fail
      refine (rnum_ok W2 g A n c B a (p' : Int) 1 hr' (by omega) (by omega) (by omega) 1 rfl).mono ?_
      rintro e w3 ⟨rfl, hr3, hg3⟩
      have K3 : Box7 w3 w.heap.size zeroR := blk_keep K2 hg3 (by omega)
      have g3 := grown_tr g2 hg3
      have s3 := hg3.size
      have hwk : IntKind.i64.wrap ((Wr.val B a 1 : Nat) : Int) = ((Wr.val B a 1 : Nat) : Int) := by rw [IntKind.wrap_i64]; omega
      have L3 := Box7.new w3 ⟨((Wr.val B a 1 : Nat) : Int), 0, false, none, 0, 0, 0, ⟨#[]⟩, none, 0, 0⟩
      have HA := Lib.hid ha
      have HP := Lib.hid hp'
      clear ha hp'
      go_wp2
      go_meet
      exact ⟨w3.heap.size, _, rfl, by omega, by simp, L3, blk_keep K3 (World.grownBy_alloc w3 _ (some g)) (by omega), grown_tr g3 (World.grownBy_alloc w3 _ (some g)), .inr ⟨a, p', HA.out, by have := HA.out; omega, HP.out, rfl, hr3.alloc _⟩⟩
  obtain ⟨L, kz, rfl, hLw, sL, L0, K3, g3, hor2⟩ := hcut
  clear K2 g2 s2 hor
  generalize wc = W3 at *
  have hLg : L ≠ g := by omega
  have hav : 0 < n → Av A L := h.by'.blk (by omega)
  have hkb : 0 ≤ kz ∧ kz < 256 := by
    rcases hor2 with ⟨_, e, _⟩ | ⟨a, _, _, _, _, e, _⟩
    · omega
    · have : Wr.val B a 1 < 256 := Wr.val_lt hBs a 1
      omega
  have y0 := L0.at.c0
  go_upto_block 0 with fail
  go_cut [4, 5, 6, 7, 8] from 31 to 152 (fun k _ _ _ _ wx => (k = .int .i64 0 ∧ ∃ R, Ta w g L A n c B X wx R) ∨ ∃ m p' a : Nat, k = .int .i64 (m : Int) ∧ 0 < p ∧ Tn w g L A n c B X f kz m p' a wx)
  case first =>
    rcases hor2 with ⟨eX, e0, aB, qB, hr⟩ | ⟨a, p', haz, han, hpp, hkz, hr⟩
    · subst e0
      have EX := Lib.hid eX
      clear eX
      go_wp2
      go_meet
      exact .inl ⟨rfl, _, ⟨L0, K3, g3, .inl ⟨EX.out, aB, qB, hr⟩⟩⟩
    have eX := HX.out
    rw [haz, if_neg (by omega), Int.toNat_natCast, hpp, Wr.dec, if_neg (by have := hBL.out; omega), Nat.add_sub_cancel, hBL.out] at eX
    have hv8 : Wr.val B a 1 < 256 := Wr.val_lt hBs a 1
    generalize Wr.val B a 1 = k at *
    have HK := Lib.hid hkz
    have HP := Lib.hid hpp
    clear HX hkz haz hpp
    by_cases hk : k = 1
    · rw [if_pos hk] at eX
      have ez : kz = 1 := by rw [HK.out, hk]; rfl
      subst ez
      by_cases cc : n < a + 9
      · rw [if_pos cc] at eX
        have EX := Lib.hid eX
        clear eX
        go_wp2_with fail
        refine (rnum_bad W3 g A n c B _ _ false 8 hr (by omega) (by omega) 8 rfl).mono ?_
        rintro e w4 ⟨rfl, ⟨a4, q4, hr4⟩, hg4⟩
        have L4 : Box7 w4 L _ := blk_keep L0 hg4 hLg
        have K4 : Box7 w4 w.heap.size zeroR := blk_keep K3 hg4 (by omega)
        have g4 := grown_tr g3 hg4
        have fz := L4.frozen 1
        have cz := L4.at.c1
        clear L0 K3 g3 hg4 y0 hr
        go_wp2
        go_meet
        exact .inl ⟨rfl, _, ⟨L4.set1 0, blk_set K4 (by omega) 1 _, grown_any g4 1 _ (by omega), .inl ⟨EX.out, a4, q4, hr4.setO hLg hav 1 _⟩⟩⟩
      · rw [if_neg cc] at eX
        have EX := Lib.hid eX
        clear eX
        go_wp2_with fail
        refine (rnum_ok W3 g A n c B (a + 1) (p' : Int) 8 hr (by omega) (by omega) (by omega) 8 rfl).mono ?_
        rintro e w4 ⟨rfl, hr4, hg4⟩
        have L4 : Box7 w4 L _ := blk_keep L0 hg4 hLg
        have K4 : Box7 w4 w.heap.size zeroR := blk_keep K3 hg4 (by omega)
        have g4 := grown_tr g3 hg4
        have vb : Wr.val B (a + 1) 8 < 256 ^ 8 := Wr.val_lt hBs (a + 1) 8
        generalize Wr.val B (a + 1) 8 = x at *
        have fz := L4.frozen 1
        have cz := L4.at.c1
        have hw8 := wrap_si (x := x) vb
        have sb := si_bd (x := x) vb
        generalize Wr.si64 x = sx at *
        clear L0 K3 g3 hg4 y0 hr
        go_wp2
        go_meet
        exact .inl ⟨rfl, _, ⟨L4.set1 sx, blk_set K4 (by omega) 1 _, grown_any g4 1 _ (by omega), .inr ⟨_, _, _, EX.out, TVS.leaf7 (k := 1) (n := sx) (u := 0) (s := ⟨#[]⟩) (by omega) (by omega) sb.1 sb.2 (by omega) (by omega) (by decide), hr4.setO hLg hav 1 _⟩⟩⟩
    rw [if_neg hk] at eX
    have b1 : (kz == 1) = false := by rw [beq_eq_false_iff_ne, HK.out]; omega
    have n1 := hk
    clear hk
    by_cases hk : k = 2
    · rw [if_pos hk] at eX
      have ez : kz = 2 := by rw [HK.out, hk]; rfl
      subst ez
      clear y0
      by_cases c1 : n < a + 2
      · rw [if_pos (.inl c1)] at eX
        have EX := Lib.hid eX
        clear eX
        go_wp2_with fail
        refine (rnum_bad W3 g A n c B _ _ false 1 hr (by omega) (by omega) 1 rfl).mono ?_
        rintro e w4 ⟨rfl, ⟨a4, q4, hr4⟩, hg4⟩
        have L4 : Box7 w4 L _ := blk_keep L0 hg4 hLg
        have K4 : Box7 w4 w.heap.size zeroR := blk_keep K3 hg4 (by omega)
        have g4 := grown_tr g3 hg4
        clear L0 K3 g3 hg4 hr
        have fz := L4.frozen 2
        have cz := L4.at.c2
        go_upto_region 15 with fail
        have r4b := hr4.setO hLg hav 2 (.bool false)
        have L4b := L4.set2 false
        have K4b : Box7 (w4.setCell ⟨L, 2, none⟩ (.bool false)) w.heap.size zeroR := blk_set K4 (by omega) 2 _
        have g4b := grown_any g4 (b := L) 2 (.bool false) (by omega)
        clear L4 K4 g4 fz cz hr4
        generalize w4.setCell ⟨L, 2, none⟩ (.bool false) = W4 at *
        have z2 := r4b.bx.c2
        have f2 := r4b.bx.fz 2
        go_upto_region 16 with fail
        have r5 := r4b.next (grown_set (World.grownBy.refl _ _)) (r4b.bx.set2 true)
        have L5 : Box7 (W4.setCell ⟨g, 2, none⟩ (.bool true)) L _ := blk_set L4b (by omega) 2 _
        have K5 : Box7 (W4.setCell ⟨g, 2, none⟩ (.bool true)) w.heap.size zeroR := blk_set K4b (by omega) 2 _
        have g5 : w.grownBy (W4.setCell ⟨g, 2, none⟩ (.bool true)) (some g) := grown_set g4b
        clear L4b K4b g4b r4b z2 f2
        generalize W4.setCell ⟨g, 2, none⟩ (.bool true) = W5 at *
        go_wp2_with fail
        refine (rnum_bad W5 g A n c B _ _ true 1 r5 (by omega) (.inl rfl) 1 rfl).mono ?_
        rintro e w6 ⟨rfl, ⟨a6, q6, hr6⟩, hg6⟩
        have L6 : Box7 w6 L _ := blk_keep L5 hg6 hLg
        have K6 : Box7 w6 w.heap.size zeroR := blk_keep K5 hg6 (by omega)
        have g6 := grown_tr g5 hg6
        clear L5 K5 g5 hg6
        go_wp2_with fail
        go_loopw [7] (fun i w' => i = .int .i64 0 ∧ w' = w6) (fun _ _ => 0)
        case atStart => exact ⟨rfl, rfl⟩
        case round =>
          obtain ⟨rfl, rfl⟩ := hrel
          go_wp2
          go_meet
          exact .inl ⟨rfl, _, ⟨L6, K6, g6, .inl ⟨EX.out, a6, q6, hr6⟩⟩⟩
      have EX0 := Lib.hid eX
      clear eX
      go_wp2_with fail
      refine (rnum_ok W3 g A n c B (a + 1) (p' : Int) 1 hr (by omega) (by omega) (by omega) 1 rfl).mono ?_
      rintro e w4 ⟨rfl, hr4, hg4⟩
      have L4 : Box7 w4 L _ := blk_keep L0 hg4 hLg
      have K4 : Box7 w4 w.heap.size zeroR := blk_keep K3 hg4 (by omega)
      have g4 := grown_tr g3 hg4
      clear L0 K3 g3 hg4 hr
      have vs : Wr.val B (a + 1) 1 < 256 := Wr.val_lt hBs (a + 1) 1
      have eX := EX0.out
      clear EX0
      generalize Wr.val B (a + 1) 1 = sn at *
      by_cases c2 : 1 < sn
      · rw [if_pos (.inr (.inl c2))] at eX
        have EX := Lib.hid eX
        clear eX
        have e1 : ((sn : Int) == 1) = false := by rw [beq_eq_false_iff_ne]; omega
        have e2 : decide ((1 : Int) < (sn : Int)) = true := by rw [decide_eq_true_iff]; omega
        have e2' : (1 : Int) < (sn : Int) := by omega
        have fz := L4.frozen 2
        have cz := L4.at.c2
        go_upto_region 15 with fail
        have r4b := hr4.setO hLg hav 2 (.bool false)
        have L4b := L4.set2 false
        have K4b : Box7 (w4.setCell ⟨L, 2, none⟩ (.bool false)) w.heap.size zeroR := blk_set K4 (by omega) 2 _
        have g4b := grown_any g4 (b := L) 2 (.bool false) (by omega)
        clear L4 K4 g4 fz cz hr4
        generalize w4.setCell ⟨L, 2, none⟩ (.bool false) = W4 at *
        have z2 := r4b.bx.c2
        have f2 := r4b.bx.fz 2
        go_upto_region 16 with fail
        have r5 := r4b.next (grown_set (World.grownBy.refl _ _)) (r4b.bx.set2 true)
        have L5 : Box7 (W4.setCell ⟨g, 2, none⟩ (.bool true)) L _ := blk_set L4b (by omega) 2 _
        have K5 : Box7 (W4.setCell ⟨g, 2, none⟩ (.bool true)) w.heap.size zeroR := blk_set K4b (by omega) 2 _
        have g5 : w.grownBy (W4.setCell ⟨g, 2, none⟩ (.bool true)) (some g) := grown_set g4b
        clear L4b K4b g4b r4b z2 f2
        generalize W4.setCell ⟨g, 2, none⟩ (.bool true) = W5 at *
        go_wp2_with fail
        refine (rnum_bad W5 g A n c B _ _ true 1 r5 (by omega) (.inl rfl) 1 rfl).mono ?_
        rintro e w6 ⟨rfl, ⟨a6, q6, hr6⟩, hg6⟩
        have L6 : Box7 w6 L _ := blk_keep L5 hg6 hLg
        have K6 : Box7 w6 w.heap.size zeroR := blk_keep K5 hg6 (by omega)
        have g6 := grown_tr g5 hg6
        clear L5 K5 g5 hg6
        go_wp2_with fail
        go_loopw [7] (fun i w' => i = .int .i64 0 ∧ w' = w6) (fun _ _ => 0)
        case atStart => exact ⟨rfl, rfl⟩
        case round =>
          obtain ⟨rfl, rfl⟩ := hrel
          go_wp2
          go_meet
          exact .inl ⟨rfl, _, ⟨L6, K6, g6, .inl ⟨EX.out, a6, q6, hr6⟩⟩⟩
      obtain ⟨sg, hsg⟩ : ∃ sg, sg = ((sn : Int) == 1) := ⟨_, rfl⟩
      have hsd : decide (sn = 1) = sg := by rw [hsg]; by_cases e : sn = 1 <;> simp [e]; omega
      rw [hsd] at eX
      have e1 : ((sn : Int) == 1) = sg := hsg.symm
      have e2 : decide ((1 : Int) < (sn : Int)) = false := by rw [decide_eq_false_iff_not]; omega
      have e2' : ¬ (1 : Int) < (sn : Int) := by omega
      have EX0 := Lib.hid eX
      clear eX hsg hsd
      have fz := L4.frozen 2
      have cz := L4.at.c2
      go_upto_region 15 with fail
      have r4b := hr4.setO hLg hav 2 (.bool sg)
      have L4b := L4.set2 sg
      have K4b : Box7 (w4.setCell ⟨L, 2, none⟩ (.bool sg)) w.heap.size zeroR := blk_set K4 (by omega) 2 _
      have g4b := grown_any g4 (b := L) 2 (.bool sg) (by omega)
      clear L4 K4 g4 fz cz hr4
      generalize w4.setCell ⟨L, 2, none⟩ (.bool sg) = W4 at *
      have z2 := r4b.bx.c2
      have f2 := r4b.bx.fz 2
      go_upto_region 16 with fail
      have r5 := r4b.next (grown_set (World.grownBy.refl _ _)) (r4b.bx.set2 false)
      have L5 : Box7 (W4.setCell ⟨g, 2, none⟩ (.bool false)) L _ := blk_set L4b (by omega) 2 _
      have K5 : Box7 (W4.setCell ⟨g, 2, none⟩ (.bool false)) w.heap.size zeroR := blk_set K4b (by omega) 2 _
      have g5 : w.grownBy (W4.setCell ⟨g, 2, none⟩ (.bool false)) (some g) := grown_set g4b
      clear L4b K4b g4b r4b z2 f2
      generalize W4.setCell ⟨g, 2, none⟩ (.bool false) = W5 at *
      go_wp2_with fail
      by_cases c3 : n < a + 3
      · have eX := EX0.out
        rw [if_pos (.inr (.inr (.inl c3)))] at eX
        have EX := Lib.hid eX
        clear eX EX0
        refine (rnum_bad W5 g A n c B _ _ false 1 r5 (by omega) (by omega) 1 rfl).mono ?_
        rintro e w6 ⟨rfl, ⟨a6, q6, hr6⟩, hg6⟩
        have L6 : Box7 w6 L _ := blk_keep L5 hg6 hLg
        have K6 : Box7 w6 w.heap.size zeroR := blk_keep K5 hg6 (by omega)
        have g6 := grown_tr g5 hg6
        clear L5 K5 g5 hg6
        go_wp2_with fail
        go_loopw [7] (fun i w' => i = .int .i64 0 ∧ w' = w6) (fun _ _ => 0)
        case atStart => exact ⟨rfl, rfl⟩
        case round =>
          obtain ⟨rfl, rfl⟩ := hrel
          go_wp2
          go_meet
          exact .inl ⟨rfl, _, ⟨L6, K6, g6, .inl ⟨EX.out, a6, q6, hr6⟩⟩⟩
      refine (rnum_ok W5 g A n c B (a + 1 + 1) (p' : Int) 1 r5 (by omega) (by omega) (by omega) 1 rfl).mono ?_
      rintro e w6 ⟨rfl, hr6, hg6⟩
      have L6 : Box7 w6 L _ := blk_keep L5 hg6 hLg
      have K6 : Box7 w6 w.heap.size zeroR := blk_keep K5 hg6 (by omega)
      have g6 := grown_tr g5 hg6
      have hr7 : Rs w6 g A n c B ((a + 3 : Nat) : Int) false (p' : Int) := hr6
      have vm : Wr.val B (a + 2) 1 < 256 := Wr.val_lt hBs (a + 2) 1
      have e12 : Wr.val B (a + 1 + 1) 1 = Wr.val B (a + 2) 1 := rfl
      rw [e12]
      clear L5 K5 g5 hg6 hr6 r5
      have eX := EX0.out
      clear EX0 e12
      have hAb : 0 < n → ∀ x, A = some x → x.block < w.heap.size := fun hn x e => by
        obtain ⟨b, o, e', hlt, _⟩ := h.by'.2.2.2 hn
        rw [e] at e'
        cases e'
        exact hlt
      generalize Wr.val B (a + 2) 1 = mm at *
      have hwm : IntKind.i64.wrap (mm : Int) = (mm : Int) := by rw [IntKind.wrap_i64]; omega
      have EX := Lib.hid eX
      clear eX
      have J0 : Ll w g L sg w6 0 none 0 [] := ⟨Own.nil _ _, L6, K6, g6⟩
      clear L6 K6 g6
      go_wp2_with fail
      go_loopw [7] (fun i w' => ∃ (j d : Nat) (Y : Option Addr) (ls : List Nat), j ≤ mm ∧ i = .int .i64 (j : Int) ∧ Ll w g L sg w' j Y d ls ∧ ((Hid (ls = (Wr.limbsAt B (a + 3) mm).take j) ∧ a + 3 + 4 * j ≤ n ∧ Rs w' g A n c B ((a + 3 + 4 * j : Nat) : Int) false (p' : Int)) ∨ (n < a + 3 + 4 * mm ∧ ∃ a' q', Rs w' g A n c B a' true q'))) (fun i _ => mm - (intOf i).toNat)
      case atStart => exact ⟨0, 0, none, [], Nat.zero_le _, rfl, J0, .inl ⟨rfl, by omega, hr7⟩⟩
      case round =>
        clear J0 hr7
        obtain ⟨j, d, Y, ls, hj, rfl, J, hor4⟩ := hrel
        rcases hor4 with ⟨hls, hjn, rj⟩ | ⟨hno, ab, qb, rj⟩
        · have x2 := rj.bx.c2
          by_cases hjm : j < mm
          · have hd1 : decide ((j : Int) < (mm : Int)) = true := by rw [decide_eq_true_iff]; omega
            go_upto_region 20 with fail
            have Jd := Lib.hid J.drew
            have y3 := J.bx.at.c3
            by_cases c4 : n < a + 3 + 4 * j + 4
            · have Q := rnum_bad wr.drew g A n c B _ _ false 4 rj.drew (by omega) (by omega) 4 rfl
              clear J x2 rj
              have hw0 : IntKind.u32.wrap 0 = 0 := by decide
              go_region_law (first
                | (refine step_app rfl _ _ 22 rfl _ _ _ rfl rfl HR.out ?_)
                | (go_simp; go_at_call 40; (with_reducible refine Q.mono ?_); rintro e v ⟨rfl, ⟨av, qv, rsv⟩, gv⟩; obtain ⟨B2, d2, w3, hrun, bx3, J3, hrs⟩ := Jd.out.one (A := A) (n := n) (c := c) (B := B) hglt hLw hAb (by omega) (x := 0) (by omega) gv; have bv : Box7 v L _ := blk_keep Jd.out.bx gv hLg; have y3' := bv.at.c3; have y3'' := (bv.below ((Below.refl _ _).alloc (Nat.le_refl _) (.cells #[.int .u32 0] 65))).at.c3; have HR := Lib.hid hrun; have H3 := Lib.hid J3; have R3 := Lib.hid (hrs _ _ _ rsv); have x6 := bx3.at.c3; have g6 := bx3.frozen 3; clear hrun J3 Q gv rsv hrs))
              all_goals
                go_wp2_with fail
                exact ⟨⟨j + 1, d2, B2, _, by omega, by go_num, H3.out, .inr ⟨by omega, _, _, R3.out⟩⟩, by simp [intOf]; omega⟩
            · have Q := rnum_ok wr.drew g A n c B (a + 3 + 4 * j) (p' : Int) 4 rj.drew (by omega) (by omega) (by omega) 4 rfl
              have vj : Wr.val B (a + 3 + 4 * j) 4 < 4294967296 := Wr.val_lt hBs (a + 3 + 4 * j) 4
              have hw32 := wrap_val vj
              have hsn := Lib.hid (limbsAt_snoc B (a + 3) mm j hjm)
              unfold RnP at Q
              generalize Wr.val B (a + 3 + 4 * j) 4 = xv at *
              clear J x2 rj
              go_region_law (first
                | (refine step_app rfl _ _ 22 rfl _ _ _ rfl rfl HR.out ?_)
                | (go_simp; go_at_call 40; (with_reducible refine Q.mono ?_); rintro e v ⟨rfl, rsv, gv⟩; obtain ⟨B2, d2, w3, hrun, bx3, J3, hrs⟩ := Jd.out.one (A := A) (n := n) (c := c) (B := B) hglt hLw hAb (by omega) (x := xv) vj gv; have bv : Box7 v L _ := blk_keep Jd.out.bx gv hLg; have y3' := bv.at.c3; have y3'' := (bv.below ((Below.refl _ _).alloc (Nat.le_refl _) (.cells #[.int .u32 (xv : Int)] 65))).at.c3; have HR := Lib.hid hrun; have H3 := Lib.hid J3; have R3 := Lib.hid (hrs _ _ _ rsv); have x6 := bx3.at.c3; have g6 := bx3.frozen 3; clear hrun J3 Q gv rsv hrs))
              all_goals
                go_wp2_with fail
                exact ⟨⟨j + 1, d2, B2, _, by omega, by go_num, H3.out, .inl ⟨(show ls ++ [xv] = _ from by rw [hsn.out, ← hls.out]), by omega, R3.out⟩⟩, by simp [intOf]; omega⟩
          · have hd1 : decide ((j : Int) < (mm : Int)) = false := by rw [decide_eq_false_iff_not]; omega
            have e : j = mm := by omega
            subst e
            go_wp2
            go_meet
            have eX := EX.out
            rw [if_neg (by omega)] at eX
            have hl : ls = Wr.limbsAt B (a + 3) j := by rw [hls.out]; exact List.take_of_length_le (by rw [Wr.limbsAt_len]; exact Nat.le_refl _)
            have lim := J.ow.lim
            rw [hl] at lim
            refine .inl ⟨rfl, _, ⟨J.bx, J.br, J.gr, .inr ⟨_, _, _, eX, ?_, rj⟩⟩⟩
            exact .mk ⟨2, 0, sg, Y, j, d, 0, ⟨#[]⟩, none, 0, 0⟩ _ [] (fun _ => default) ⟨by simp only; omega, by simp only; omega, by simp only; omega, by simp only; omega, by simp only; omega, by simp only; omega, lim, J.ow.cap.2, (by show 0 ≤ maxLen; exact Nat.zero_le _), Nat.le_refl _, Nat.zero_le _⟩ rfl (fun h => absurd h (by simp)) ⟨fun _ x e => by have o := J.ow; simp only at e; rw [e] at o; have := (World.ownsRow.lt o.2.2 x.block rfl).1; omega, fun h => absurd h (by simp)⟩ (fun i t e => by simp at e)
        · have x2 := rj.bx.c2
          have eX := EX.out
          rw [if_pos (.inr (.inr (.inr hno)))] at eX
          have EX2 := Lib.hid eX
          clear eX
          by_cases hjm : j < mm
          · have hd1 : decide ((j : Int) < (mm : Int)) = true := by rw [decide_eq_true_iff]; omega
            go_wp2
            go_meet
            exact .inl ⟨rfl, _, ⟨J.bx, J.br, J.gr, .inl ⟨EX2.out, ab, qb, rj⟩⟩⟩
          · have hd1 : decide ((j : Int) < (mm : Int)) = false := by rw [decide_eq_false_iff_not]; omega
            go_wp2
            go_meet
            exact .inl ⟨rfl, _, ⟨J.bx, J.br, J.gr, .inl ⟨EX2.out, ab, qb, rj⟩⟩⟩
    rw [if_neg hk] at eX
    have b2 : (kz == 2) = false := by rw [beq_eq_false_iff_ne, HK.out]; omega
    have n2 := hk
    clear hk
    by_cases hk : k = 3
    · rw [if_pos hk] at eX
      have ez : kz = 3 := by rw [HK.out, hk]; rfl
      subst ez
      by_cases cc : n < a + 9
      · rw [if_pos cc] at eX
        have EX := Lib.hid eX
        clear eX
        go_wp2_with fail
        refine (rnum_bad W3 g A n c B _ _ false 8 hr (by omega) (by omega) 8 rfl).mono ?_
        rintro e w4 ⟨rfl, ⟨a4, q4, hr4⟩, hg4⟩
        have L4 : Box7 w4 L _ := blk_keep L0 hg4 hLg
        have K4 : Box7 w4 w.heap.size zeroR := blk_keep K3 hg4 (by omega)
        have g4 := grown_tr g3 hg4
        have fz := L4.frozen 4
        have cz := L4.at.c4
        clear L0 K3 g3 hg4 y0 hr
        go_wp2
        go_meet
        exact .inl ⟨rfl, _, ⟨L4.set4 0, blk_set K4 (by omega) 4 _, grown_any g4 4 _ (by omega), .inl ⟨EX.out, a4, q4, hr4.setO hLg hav 4 _⟩⟩⟩
      · rw [if_neg cc] at eX
        have EX := Lib.hid eX
        clear eX
        go_wp2_with fail
        refine (rnum_ok W3 g A n c B (a + 1) (p' : Int) 8 hr (by omega) (by omega) (by omega) 8 rfl).mono ?_
        rintro e w4 ⟨rfl, hr4, hg4⟩
        have L4 : Box7 w4 L _ := blk_keep L0 hg4 hLg
        have K4 : Box7 w4 w.heap.size zeroR := blk_keep K3 hg4 (by omega)
        have g4 := grown_tr g3 hg4
        have vb : Wr.val B (a + 1) 8 < 256 ^ 8 := Wr.val_lt hBs (a + 1) 8
        generalize Wr.val B (a + 1) 8 = x at *
        have fz := L4.frozen 4
        have cz := L4.at.c4
        clear L0 K3 g3 hg4 y0 hr
        go_wp2
        go_meet
        exact .inl ⟨rfl, _, ⟨L4.set4 (x : Int), blk_set K4 (by omega) 4 _, grown_any g4 4 _ (by omega), .inr ⟨_, _, _, EX.out, TVS.leaf7 (k := 3) (n := 0) (u := (x : Int)) (s := ⟨#[]⟩) (by omega) (by omega) (by omega) (by omega) (by omega) (by omega) (by decide), hr4.setO hLg hav 4 _⟩⟩⟩
    rw [if_neg hk] at eX
    have b3 : (kz == 3) = false := by rw [beq_eq_false_iff_ne, HK.out]; omega
    have n3 := hk
    clear hk
    by_cases hk : k = 4
    · rw [if_pos (show k = 4 ∨ k = 5 by omega)] at eX
      have ek : ((k : Nat) : Int) = 4 := by rw [hk]; rfl
      rw [ek] at eX
      have ez : kz = 4 := by rw [HK.out, hk]; rfl
      subst ez
      by_cases cc : n < a + 2
      · rw [if_pos cc] at eX
        have EX := Lib.hid eX
        clear eX
        go_wp2_with fail
        refine (rnum_bad W3 g A n c B _ _ false 1 hr (by omega) (by omega) 1 rfl).mono ?_
        rintro e w4 ⟨rfl, ⟨a4, q4, hr4⟩, hg4⟩
        have L4 : Box7 w4 L _ := blk_keep L0 hg4 hLg
        have K4 : Box7 w4 w.heap.size zeroR := blk_keep K3 hg4 (by omega)
        have g4 := grown_tr g3 hg4
        have fz := L4.frozen 1
        have cz := L4.at.c1
        clear L0 K3 g3 hg4 y0 hr
        go_wp2
        go_meet
        exact .inl ⟨rfl, _, ⟨L4.set1 0, blk_set K4 (by omega) 1 _, grown_any g4 1 _ (by omega), .inl ⟨EX.out, a4, q4, hr4.setO hLg hav 1 _⟩⟩⟩
      · rw [if_neg cc] at eX
        have EX := Lib.hid eX
        clear eX
        go_wp2_with fail
        refine (rnum_ok W3 g A n c B (a + 1) (p' : Int) 1 hr (by omega) (by omega) (by omega) 1 rfl).mono ?_
        rintro e w4 ⟨rfl, hr4, hg4⟩
        have L4 : Box7 w4 L _ := blk_keep L0 hg4 hLg
        have K4 : Box7 w4 w.heap.size zeroR := blk_keep K3 hg4 (by omega)
        have g4 := grown_tr g3 hg4
        have vb : Wr.val B (a + 1) 1 < 256 ^ 1 := Wr.val_lt hBs (a + 1) 1
        generalize Wr.val B (a + 1) 1 = x at *
        have fz := L4.frozen 1
        have cz := L4.at.c1
        have hw8 : IntKind.i64.wrap (x : Int) = (x : Int) := by rw [IntKind.wrap_i64]; omega
        clear L0 K3 g3 hg4 y0 hr
        go_wp2
        go_meet
        exact .inl ⟨rfl, _, ⟨L4.set1 (x : Int), blk_set K4 (by omega) 1 _, grown_any g4 1 _ (by omega), .inr ⟨_, _, _, EX.out, TVS.leaf7 (k := 4) (n := (x : Int)) (u := 0) (s := ⟨#[]⟩) (by omega) (by omega) (by omega) (by omega) (by omega) (by omega) (by decide), hr4.setO hLg hav 1 _⟩⟩⟩
    have b4 : (kz == 4) = false := by rw [beq_eq_false_iff_ne, HK.out]; omega
    have n4 := hk
    clear hk
    by_cases hk : k = 5
    · rw [if_pos (show k = 4 ∨ k = 5 by omega)] at eX
      have ek : ((k : Nat) : Int) = 5 := by rw [hk]; rfl
      rw [ek] at eX
      have ez : kz = 5 := by rw [HK.out, hk]; rfl
      subst ez
      by_cases cc : n < a + 2
      · rw [if_pos cc] at eX
        have EX := Lib.hid eX
        clear eX
        go_wp2_with fail
        refine (rnum_bad W3 g A n c B _ _ false 1 hr (by omega) (by omega) 1 rfl).mono ?_
        rintro e w4 ⟨rfl, ⟨a4, q4, hr4⟩, hg4⟩
        have L4 : Box7 w4 L _ := blk_keep L0 hg4 hLg
        have K4 : Box7 w4 w.heap.size zeroR := blk_keep K3 hg4 (by omega)
        have g4 := grown_tr g3 hg4
        have fz := L4.frozen 1
        have cz := L4.at.c1
        clear L0 K3 g3 hg4 y0 hr
        go_wp2
        go_meet
        exact .inl ⟨rfl, _, ⟨L4.set1 0, blk_set K4 (by omega) 1 _, grown_any g4 1 _ (by omega), .inl ⟨EX.out, a4, q4, hr4.setO hLg hav 1 _⟩⟩⟩
      · rw [if_neg cc] at eX
        have EX := Lib.hid eX
        clear eX
        go_wp2_with fail
        refine (rnum_ok W3 g A n c B (a + 1) (p' : Int) 1 hr (by omega) (by omega) (by omega) 1 rfl).mono ?_
        rintro e w4 ⟨rfl, hr4, hg4⟩
        have L4 : Box7 w4 L _ := blk_keep L0 hg4 hLg
        have K4 : Box7 w4 w.heap.size zeroR := blk_keep K3 hg4 (by omega)
        have g4 := grown_tr g3 hg4
        have vb : Wr.val B (a + 1) 1 < 256 ^ 1 := Wr.val_lt hBs (a + 1) 1
        generalize Wr.val B (a + 1) 1 = x at *
        have fz := L4.frozen 1
        have cz := L4.at.c1
        have hw8 : IntKind.i64.wrap (x : Int) = (x : Int) := by rw [IntKind.wrap_i64]; omega
        clear L0 K3 g3 hg4 y0 hr
        go_wp2
        go_meet
        exact .inl ⟨rfl, _, ⟨L4.set1 (x : Int), blk_set K4 (by omega) 1 _, grown_any g4 1 _ (by omega), .inr ⟨_, _, _, EX.out, TVS.leaf7 (k := 5) (n := (x : Int)) (u := 0) (s := ⟨#[]⟩) (by omega) (by omega) (by omega) (by omega) (by omega) (by omega) (by decide), hr4.setO hLg hav 1 _⟩⟩⟩
    have b5 : (kz == 5) = false := by rw [beq_eq_false_iff_ne, HK.out]; omega
    have n5 := hk
    clear hk
    rw [if_neg (show ¬ (k = 4 ∨ k = 5) by omega)] at eX
    by_cases hk : k = 6
    · rw [if_pos hk] at eX
      have ez : kz = 6 := by rw [HK.out, hk]; rfl
      subst ez
      by_cases cc : n < a + 2
      · rw [if_pos cc] at eX
        have EX := Lib.hid eX
        clear eX
        go_wp2_with fail
        refine (rnum_bad W3 g A n c B _ _ false 1 hr (by omega) (by omega) 1 rfl).mono ?_
        rintro e w4 ⟨rfl, ⟨a4, q4, hr4⟩, hg4⟩
        have L4 : Box7 w4 L _ := blk_keep L0 hg4 hLg
        have K4 : Box7 w4 w.heap.size zeroR := blk_keep K3 hg4 (by omega)
        have g4 := grown_tr g3 hg4
        clear L0 K3 g3 hg4 y0 hr
        go_wp2
        go_meet
        exact .inl ⟨rfl, _, ⟨L4, K4, g4, .inl ⟨EX.out, a4, q4, hr4⟩⟩⟩
      · rw [if_neg cc] at eX
        have EX := Lib.hid eX
        clear eX
        go_wp2_with fail
        refine (rnum_ok W3 g A n c B (a + 1) (p' : Int) 1 hr (by omega) (by omega) (by omega) 1 rfl).mono ?_
        rintro e w4 ⟨rfl, hr4, hg4⟩
        have L4 : Box7 w4 L _ := blk_keep L0 hg4 hLg
        have K4 : Box7 w4 w.heap.size zeroR := blk_keep K3 hg4 (by omega)
        have g4 := grown_tr g3 hg4
        have vb : Wr.val B (a + 1) 1 < 256 := Wr.val_lt hBs (a + 1) 1
        generalize Wr.val B (a + 1) 1 = x at *
        have hw8 : IntKind.i64.wrap (x : Int) = (x : Int) := by rw [IntKind.wrap_i64]; omega
        clear L0 K3 g3 hg4 y0 hr
        go_wp2
        go_meet
        exact .inr ⟨x, p', a + 2, rfl, by have := HP.out; omega, ⟨L4, K4, g4, hr4, EX.out, by omega, by omega, by have := HP.out; omega, .inl rfl⟩⟩
    rw [if_neg hk] at eX
    have b6 : (kz == 6) = false := by rw [beq_eq_false_iff_ne, HK.out]; omega
    have n6 := hk
    clear hk
    by_cases hk : k = 7
    · rw [if_pos hk] at eX
      have ez : kz = 7 := by rw [HK.out, hk]; rfl
      subst ez
      have EX := Lib.hid eX
      clear eX
      go_wp2
      go_meet
      exact .inl ⟨rfl, _, ⟨L0, K3, g3, .inr ⟨_, _, _, EX.out, TVS.leaf7 (k := 7) (n := 0) (u := 0) (s := ⟨#[]⟩) (by omega) (by omega) (by omega) (by omega) (by omega) (by omega) (by decide), hr⟩⟩⟩
    rw [if_neg hk] at eX
    have b7 : (kz == 7) = false := by rw [beq_eq_false_iff_ne, HK.out]; omega
    have n7 := hk
    clear hk
    by_cases hk : k = 8
    · rw [if_pos hk] at eX
      have ez : kz = 8 := by rw [HK.out, hk]; rfl
      subst ez
      have EX := Lib.hid eX
      clear eX
      go_wp2
      go_meet
      exact .inr ⟨2, p', a + 1, rfl, by have := HP.out; omega, ⟨L0, K3, g3, hr, EX.out, by omega, by omega, by have := HP.out; omega, .inr rfl⟩⟩
    rw [if_neg hk] at eX
    have b8 : (kz == 8) = false := by rw [beq_eq_false_iff_ne, HK.out]; omega
    have n8 := hk
    clear hk
    by_cases hk : k = 9
    · rw [if_pos hk] at eX
      have ez : kz = 9 := by rw [HK.out, hk]; rfl
      subst ez
      by_cases cc : n < a + 3
      · rw [if_pos (.inl cc)] at eX
        have EX := Lib.hid eX
        clear eX
        go_wp2_with fail
        refine (rnum_bad W3 g A n c B _ _ false 2 hr (by omega) (by omega) 2 rfl).mono ?_
        rintro e w4 ⟨rfl, ⟨a4, q4, hr4⟩, hgB⟩
        clear y0
        have K4 : Box7 w4 w.heap.size zeroR := blk_keep K3 hgB (by omega)
        have g4 := grown_tr g3 hgB
        have z2 := hr4.bx.c2
        have f2 := hr4.bx.fz 2
        have z0 := hr4.bx.c0
        have z1 := hr4.bx.c1
        have f0 := K4.frozen 0; have f1 := K4.frozen 1; have f2 := K4.frozen 2; have f3 := K4.frozen 3; have f4 := K4.frozen 4; have f5 := K4.frozen 5; have f6 := K4.frozen 6
        have y0 := K4.at.c0; have y1 := K4.at.c1; have y2 := K4.at.c2; have y3 := K4.at.c3; have y4 := K4.at.c4; have y5 := K4.at.c5; have y6 := K4.at.c6
        go_wp2
        go_quiet (fail)
        go_wp2
        have K5 : Box7 ((w4.drewN nq).setCell ⟨g, 2, none⟩ (.bool true)) w.heap.size zeroR := blk_set (w := w4.drewN nq) K4 (by omega) 2 _
        have r5 : Rs ((w4.drewN nq).setCell ⟨g, 2, none⟩ (.bool true)) g A n c B _ true _ := hr4.next (grown_set (World.grownBy.refl _ _ |> fun k => ⟨k.os, k.tape, k.output, k.size, k.block⟩)) (Rx.set2 (w := w4.drewN nq) hr4.bx true)
        have g5 : w.grownBy ((w4.drewN nq).setCell ⟨g, 2, none⟩ (.bool true)) (some g) := grown_set ⟨g4.os, g4.tape, g4.output, g4.size, g4.block⟩
        generalize (w4.drewN nq).setCell ⟨g, 2, none⟩ (.bool true) = W9 at *
        have C := (K5.put zeroR).at
        have hwg : w.heap.size ≠ g := by omega
        have hav2 : 0 < n → Av A w.heap.size := h.by'.blk (Nat.le_refl _)
        have r6 := ((((((r5.setO hwg hav2 0 (.int .i64 0)).setO hwg hav2 1 (.int .i64 0)).setO hwg hav2 2 (.bool false)).setO hwg hav2 3 (.slice none 0 0)).setO hwg hav2 4 (.int .u64 0)).setO hwg hav2 5 (.string ⟨#[]⟩)).setO hwg hav2 6 (.slice none 0 0)
        have g6 : w.grownBy (put7 W9 w.heap.size zeroR) (some g) := grown_any (grown_any (grown_any (grown_any (grown_any (grown_any (grown_any g5 0 _ (Nat.le_refl _)) 1 _ (Nat.le_refl _)) 2 _ (Nat.le_refl _)) 3 _ (Nat.le_refl _)) 4 _ (Nat.le_refl _)) 5 _ (Nat.le_refl _)) 6 _ (Nat.le_refl _)
        have r6' : Rs (put7 W9 w.heap.size zeroR) g A n c B _ true _ := r6
        clear y0 y1 y2 y3 y4 y5 y6 f0 f1 f2 f3 f4 f5 f6 z0 z1 z2 K4 K5 r5 r6
        have y0 := C.c0; have y1 := C.c1; have y2 := C.c2; have y3 := C.c3; have y4 := C.c4; have y5 := C.c5; have y6 := C.c6
        clear C
        change bodyPost _ _ _ _ _ (put7 W9 w.heap.size zeroR)
        generalize put7 W9 w.heap.size zeroR = W10 at *
        refine bodyPost_ret (v := .agg #[.int .i64 zeroR.k, .int .i64 zeroR.n, .bool zeroR.g, .slice zeroR.A zeroR.ln zeroR.lc, .int .u64 zeroR.u, .string zeroR.s, .slice zeroR.B zeroR.m zeroR.d]) (by simp [results, Try.results28, go_sem, y0, y1, y2, y3, y4, y5, y6]) rfl ?_
        rw [EX.out]
        exact ⟨zeroR, rfl, ⟨_, _, r6'⟩, g6⟩
      · clear y0
        have EX0 := Lib.hid eX
        clear eX
        go_wp2_with fail
        refine (rnum_ok W3 g A n c B (a + 1) (p' : Int) 2 hr (by omega) (by omega) (by omega) 2 rfl).mono ?_
        rintro e w4 ⟨rfl, hr4, hgB⟩
        have L4 : Box7 w4 L _ := blk_keep L0 hgB hLg
        have vb : Wr.val B (a + 1) 2 < 65536 := Wr.val_lt hBs (a + 1) 2
        have eX := EX0.out
        clear EX0
        generalize Wr.val B (a + 1) 2 = x at *
        have hw8 : IntKind.i64.wrap (x : Int) = (x : Int) := by rw [IntKind.wrap_i64]; omega
        obtain ⟨u, hu⟩ : ∃ u, u = a + 1 + 2 := ⟨_, rfl⟩
        rw [← hu] at hr4
        have eu : a + 3 = u := by omega
        rw [eu] at eX
        have hun : u ≤ n := by omega
        have HU := Lib.hid hu
        clear hu eu hr L0
        have K4 : Box7 w4 w.heap.size zeroR := blk_keep K3 hgB (by omega)
        have g4 := grown_tr g3 hgB
        have z2 := hr4.bx.c2
        have f2 := hr4.bx.fz 2
        have z0 := hr4.bx.c0
        have z1 := hr4.bx.c1
        have f0 := K4.frozen 0; have f1 := K4.frozen 1; have f2 := K4.frozen 2; have f3 := K4.frozen 3; have f4 := K4.frozen 4; have f5 := K4.frozen 5; have f6 := K4.frozen 6
        have y0 := K4.at.c0; have y1 := K4.at.c1; have y2 := K4.at.c2; have y3 := K4.at.c3; have y4 := K4.at.c4; have y5 := K4.at.c5; have y6 := K4.at.c6
        by_cases c2 : n < u + x
        · rw [if_pos (.inr c2)] at eX
          have EX := Lib.hid eX
          have dd : decide ((n : Int) - (u : Int) < (x : Int)) = true := by rw [decide_eq_true_iff]; omega
          clear eX K3 g3 hgB
          go_wp2
          go_quiet (fail)
          go_wp2
          have K5 : Box7 ((w4.drewN nq).setCell ⟨g, 2, none⟩ (.bool true)) w.heap.size zeroR := blk_set (w := w4.drewN nq) K4 (by omega) 2 _
          have r5 : Rs ((w4.drewN nq).setCell ⟨g, 2, none⟩ (.bool true)) g A n c B _ true _ := hr4.next (grown_set (World.grownBy.refl _ _ |> fun k => ⟨k.os, k.tape, k.output, k.size, k.block⟩)) (Rx.set2 (w := w4.drewN nq) hr4.bx true)
          have g5 : w.grownBy ((w4.drewN nq).setCell ⟨g, 2, none⟩ (.bool true)) (some g) := grown_set ⟨g4.os, g4.tape, g4.output, g4.size, g4.block⟩
          generalize (w4.drewN nq).setCell ⟨g, 2, none⟩ (.bool true) = W9 at *
          have C := (K5.put zeroR).at
          have hwg : w.heap.size ≠ g := by omega
          have hav2 : 0 < n → Av A w.heap.size := h.by'.blk (Nat.le_refl _)
          have r6 := ((((((r5.setO hwg hav2 0 (.int .i64 0)).setO hwg hav2 1 (.int .i64 0)).setO hwg hav2 2 (.bool false)).setO hwg hav2 3 (.slice none 0 0)).setO hwg hav2 4 (.int .u64 0)).setO hwg hav2 5 (.string ⟨#[]⟩)).setO hwg hav2 6 (.slice none 0 0)
          have g6 : w.grownBy (put7 W9 w.heap.size zeroR) (some g) := grown_any (grown_any (grown_any (grown_any (grown_any (grown_any (grown_any g5 0 _ (Nat.le_refl _)) 1 _ (Nat.le_refl _)) 2 _ (Nat.le_refl _)) 3 _ (Nat.le_refl _)) 4 _ (Nat.le_refl _)) 5 _ (Nat.le_refl _)) 6 _ (Nat.le_refl _)
          have r6' : Rs (put7 W9 w.heap.size zeroR) g A n c B _ true _ := r6
          clear y0 y1 y2 y3 y4 y5 y6 f0 f1 f2 f3 f4 f5 f6 z0 z1 z2 K4 K5 r5 r6
          have y0 := C.c0; have y1 := C.c1; have y2 := C.c2; have y3 := C.c3; have y4 := C.c4; have y5 := C.c5; have y6 := C.c6
          clear C
          change bodyPost _ _ _ _ _ (put7 W9 w.heap.size zeroR)
          generalize put7 W9 w.heap.size zeroR = W10 at *
          refine bodyPost_ret (v := .agg #[.int .i64 zeroR.k, .int .i64 zeroR.n, .bool zeroR.g, .slice zeroR.A zeroR.ln zeroR.lc, .int .u64 zeroR.u, .string zeroR.s, .slice zeroR.B zeroR.m zeroR.d]) (by simp [results, Try.results28, go_sem, y0, y1, y2, y3, y4, y5, y6]) rfl ?_
          rw [EX.out]
          exact ⟨zeroR, rfl, ⟨_, _, r6'⟩, g6⟩
        · rw [if_neg (by omega)] at eX
          have EX := Lib.hid eX
          have dd : decide ((n : Int) - (u : Int) < (x : Int)) = false := by rw [decide_eq_false_iff_not]; omega
          clear eX K3 g3 hgB y0 y1 y2 y3 y4 y5 y6 f0 f1 f2 f3 f4 f5 f6
          go_wp2
          go_quiet (fail)
          go_upto_region 32 with fail
          have r5 : Rs (w4.drewN nq) g A n c B (u : Int) false (p' : Int) := ⟨hr4.bx, hr4.by', hr4.av, hr4.cap⟩
          have L5 : Box7 (w4.drewN nq) L ⟨9, 0, false, none, 0, 0, 0, ⟨#[]⟩, none, 0, 0⟩ := L4
          have K5 : Box7 (w4.drewN nq) w.heap.size zeroR := K4
          have g5 : w.grownBy (w4.drewN nq) (some g) := ⟨g4.os, g4.tape, g4.output, g4.size, g4.block⟩
          clear hr4 L4 K4 g4 z0 z1 z2 f2
          generalize w4.drewN nq = W5 at *
          obtain ⟨b, o, e, _⟩ := r5.by'.2.2.2 (by omega)
          subst e
          have z0 := r5.bx.c0
          have z1 := r5.bx.c1
          have cz := L5.at.c5
          have fz := L5.frozen 5
          have hlen : (Wr.str ((B.drop u).take x)).size = x := by rw [Wr.str_size, List.length_take, List.length_drop, hBL.out]; omega
          have i1 : (u : Int) + (x : Int) ≤ (c : Int) := by omega
          by_cases hca : c = u
          · have hca' : (c = u) = True := by simp [hca]
            have hx0 : x = 0 := by omega
            subst hx0
            have B5 := (show By W5 (some ⟨b, o, none⟩) 0 0 ((B.drop u).take 0) from ⟨by simp, Nat.le_refl _, by simpa using Wr.small_nil, fun h => absurd h (by omega)⟩)
            have hcv : (convert 31 9 (.slice (some ⟨b, o, none⟩) 0 0)).run Try.prog W5 = .ok (.string (Wr.str ((B.drop u).take 0))) W5 := by
              exact conv_bytes B5
            have hcv' : (convert 31 9 (.slice (some ⟨b, o, none⟩) 0 0)).run Try.prog W5.drew = .ok (.string (Wr.str ((B.drop u).take 0))) W5.drew := by
              exact conv_bytes (w := W5.drew) B5
            clear B5
            generalize Wr.str ((B.drop u).take 0) = sx at *
            go_region
            have r6 : Rs (W5.setCell ⟨L, 5, none⟩ (.string sx)).drew g (some ⟨b, o, none⟩) n c B (u : Int) false (p' : Int) := (r5.setO hLg hav 5 _).drew
            have L6 : Box7 (W5.setCell ⟨L, 5, none⟩ (.string sx)).drew L ⟨9, 0, false, none, 0, 0, 0, sx, none, 0, 0⟩ := (L5.set5 sx).drew
            have K6 : Box7 (W5.setCell ⟨L, 5, none⟩ (.string sx)).drew w.heap.size zeroR := Box7.drew (blk_set K5 (by omega) 5 _)
            have g6 : w.grownBy (W5.setCell ⟨L, 5, none⟩ (.string sx)).drew (some g) := grown_drew (grown_any g5 5 _ (by omega))
            generalize (W5.setCell ⟨L, 5, none⟩ (.string sx)).drew = W6 at *
            clear z0 z1 cz fz r5 L5 K5 g5 hcv hcv'
            have z1 := r6.bx.c1
            have f1 := r6.bx.fz 1
            have sxl : sx.size ≤ 65535 := by omega
            go_wp2
            go_meet
            refine .inl ⟨rfl, _, ⟨blk_set L6 (by omega) 1 _, blk_set K6 (by omega) 1 _, grown_set g6, .inr ⟨_, _, _, EX.out, TVS.leaf7 (k := 9) (n := 0) (u := 0) (s := sx) (by omega) (by omega) (by omega) (by omega) (by omega) (by omega) sxl, ?_⟩⟩⟩
            exact r6.next (grown_set (World.grownBy.refl _ _)) (r6.bx.set1 _)
          · have hca' : (c = u) = False := by simp [hca]
            have B5 := window r5.by' u x (by omega)
            have hcv : (convert 31 9 (.slice (some ⟨b, o + u, none⟩) x (c - u))).run Try.prog W5 = .ok (.string (Wr.str ((B.drop u).take x))) W5 := by
              exact conv_bytes B5
            have hcv' : (convert 31 9 (.slice (some ⟨b, o + u, none⟩) x (c - u))).run Try.prog W5.drew = .ok (.string (Wr.str ((B.drop u).take x))) W5.drew := by
              exact conv_bytes (w := W5.drew) B5
            clear B5
            generalize Wr.str ((B.drop u).take x) = sx at *
            go_region
            have r6 : Rs (W5.setCell ⟨L, 5, none⟩ (.string sx)).drew g (some ⟨b, o, none⟩) n c B (u : Int) false (p' : Int) := (r5.setO hLg hav 5 _).drew
            have L6 : Box7 (W5.setCell ⟨L, 5, none⟩ (.string sx)).drew L ⟨9, 0, false, none, 0, 0, 0, sx, none, 0, 0⟩ := (L5.set5 sx).drew
            have K6 : Box7 (W5.setCell ⟨L, 5, none⟩ (.string sx)).drew w.heap.size zeroR := Box7.drew (blk_set K5 (by omega) 5 _)
            have g6 : w.grownBy (W5.setCell ⟨L, 5, none⟩ (.string sx)).drew (some g) := grown_drew (grown_any g5 5 _ (by omega))
            generalize (W5.setCell ⟨L, 5, none⟩ (.string sx)).drew = W6 at *
            clear z0 z1 cz fz r5 L5 K5 g5 hcv hcv'
            have z1 := r6.bx.c1
            have f1 := r6.bx.fz 1
            have sxl : sx.size ≤ 65535 := by omega
            go_wp2
            go_meet
            refine .inl ⟨rfl, _, ⟨blk_set L6 (by omega) 1 _, blk_set K6 (by omega) 1 _, grown_set g6, .inr ⟨_, _, _, EX.out, TVS.leaf7 (k := 9) (n := 0) (u := 0) (s := sx) (by omega) (by omega) (by omega) (by omega) (by omega) (by omega) sxl, ?_⟩⟩⟩
            rw [Int.natCast_add]
            exact r6.next (grown_set (World.grownBy.refl _ _)) (r6.bx.set1 _)
    rw [if_neg hk] at eX
    have b9 : (kz == 9) = false := by rw [beq_eq_false_iff_ne, HK.out]; omega
    have eX : X = some (.mk kz 0 false [] 0 ⟨#[]⟩ [], p', a + 1) := by rw [eX, if_neg (by simp), HK.out]
    have EX := Lib.hid eX
    clear eX
    go_wp2
    go_meet
    exact .inl ⟨rfl, _, ⟨L0, K3, g3, .inr ⟨_, _, _, EX.out, TVS.leaf7 (k := kz) (n := 0) (u := 0) (s := ⟨#[]⟩) (by omega) (by omega) (by omega) (by omega) (by omega) (by omega) (by decide), hr⟩⟩⟩
  have hav2 : 0 < n → Av A w.heap.size := h.by'.blk (Nat.le_refl _)
  have hAb : 0 < n → ∀ x, A = some x → x.block < w.heap.size := fun hn x e => by
    obtain ⟨b, o, e', hlt, _⟩ := h.by'.2.2.2 hn
    rw [e] at e'
    cases e'
    exact hlt
  clear hor2 L0 K3 g3 y0 HX
  rcases hcut with ⟨rfl, R, T⟩ | ⟨m, p', a, rfl, hp0, T⟩
  · go_wp2_with fail
    go_loopw [9] (fun i w' => i = .int .i64 0 ∧ w' = wc) (fun _ _ => 0)
    case atStart => exact ⟨rfl, rfl⟩
    case round =>
      obtain ⟨rfl, rfl⟩ := hrel
      have y0 := T.bx.at.c0; have y1 := T.bx.at.c1; have y2 := T.bx.at.c2; have y3 := T.bx.at.c3; have y4 := T.bx.at.c4; have y5 := T.bx.at.c5; have y6 := T.bx.at.c6
      have f0 := T.br.frozen 0; have f1 := T.br.frozen 1; have f2 := T.br.frozen 2; have f3 := T.br.frozen 3; have f4 := T.br.frozen 4; have f5 := T.br.frozen 5; have f6 := T.br.frozen 6
      have z0 := T.br.at.c0; have z1 := T.br.at.c1; have z2 := T.br.at.c2; have z3 := T.br.at.c3; have z4 := T.br.at.c4; have z5 := T.br.at.c5; have z6 := T.br.at.c6
      go_wp2
      have C := (T.br.put R).at
      have F := T.fin hglt hav2
      clear y0 y1 y2 y3 y4 y5 y6 f0 f1 f2 f3 f4 f5 f6 z0 z1 z2 z3 z4 z5 z6 T
      have y0 := C.c0; have y1 := C.c1; have y2 := C.c2; have y3 := C.c3; have y4 := C.c4; have y5 := C.c5; have y6 := C.c6
      clear C
      change bodyPost _ _ _ _ _ (put7 wr w.heap.size R)
      generalize put7 wr w.heap.size R = W5 at *
      exact bodyPost_ret (v := .agg #[.int .i64 R.k, .int .i64 R.n, .bool R.g, .slice R.A R.ln R.lc, .int .u64 R.u, .string R.s, .slice R.B R.m R.d]) (by simp [results, Try.results28, go_sem, y0, y1, y2, y3, y4, y5, y6]) rfl F
  · have hle := T.le
    have HEQ := Lib.hid T.eq
    have sL' := T.bx.lt
    have J0 : Lo w g L A n c B f kz p' a wc 0 none 0 [] p' a := ⟨Row7.nil _ _, T.bx, T.br, T.gr, T.rs, rfl, hle.2.2.1, hle.2.1⟩
    go_wp2_with fail
    clear T
    go_loopw [9] (fun i w' => ∃ j : Nat, j ≤ m ∧ i = .int .i64 (j : Int) ∧ ((∃ X' d ts q a', Lo w g L A n c B f kz p' a w' j X' d ts q a') ∨ (Hid (Wr.decs (Wr.dec false B f) m p' a = none) ∧ Lb w g L A n c B w'))) (fun i _ => m - (intOf i).toNat)
    case atStart => exact ⟨0, Nat.zero_le _, rfl, .inl ⟨none, 0, [], p', a, J0⟩⟩
    case round =>
      clear J0 sL'
      obtain ⟨j, hj, rfl, hor3⟩ := hrel
      rcases hor3 with ⟨X', d, ts, q, a', J⟩ | ⟨hno, J⟩
      · have x2 := J.rs.bx.c2
        by_cases hjm : j < m
        · have hd1 : decide ((j : Int) < (m : Int)) = true := by rw [decide_eq_true_iff]; omega
          go_upto_region 37 with fail
          have Jd := Lib.hid J.drew
          have y6 := J.bx.at.c6
          have Q := IH.out hp0 wr.drew a' q J.le.1 J.le.2 J.drew.rs
          cases hx : Wr.dec false B f q a' with
          | none =>
            rw [hx] at Q
            have HN := Lib.hid (Wr.decs_none (j := j + 1) (by rw [Wr.decs_step J.eq, hx]; rfl) m (by omega))
            clear J x2 hx
            go_region_law (first
              | (refine step_app rfl _ _ 26 rfl _ _ _ rfl rfl HR.out ?_)
              | (go_simp; go_at_call 28; (with_reducible refine Q.mono ?_); rintro e v ⟨R, rfl, rsv, gv⟩; obtain ⟨B2, d2, w3, hrun, bx3, J3⟩ := Jd.out.bad hglt hLw hAb (by omega) (R := R) rsv gv; have bv : Box7 v L _ := blk_keep Jd.out.bx gv hLg; have y6' := bv.at.c6; have y6'' := (bv.below ((Below.refl _ _).alloc (Nat.le_refl _) (.cells #[.int .i64 R.k, .int .i64 R.n, .bool R.g, .slice R.A R.ln R.lc, .int .u64 R.u, .string R.s, .slice R.B R.m R.d] 28))).at.c6; have HR := Lib.hid hrun; have H3 := Lib.hid J3; have x6 := bx3.at.c6; have g6 := bx3.frozen 6; clear hrun J3 Q gv rsv))
            all_goals
              go_wp2_with fail
              exact ⟨⟨j + 1, by omega, by go_num, .inr ⟨HN, H3.out⟩⟩, by simp [intOf]; omega⟩
          | some y =>
            obtain ⟨t', q', a2⟩ := y
            rw [hx] at Q
            have hbk := Wr.dec_back hBs _ _ _ _ _ _ hx
            have hq2 : q' ≤ f := by have := J.le.1; omega
            have ha2 : a2 ≤ n := by have := hBL.out; omega
            have HX2 := Lib.hid hx
            clear J x2 hx hbk
            go_region_law (first
              | (refine step_app rfl _ _ 26 rfl _ _ _ rfl rfl HR.out ?_)
              | (go_simp; go_at_call 28; (with_reducible refine Q.mono ?_); rintro e v ⟨R, rfl, tv, rsv, gv⟩; obtain ⟨B2, d2, w3, hrun, bx3, J3⟩ := Jd.out.one hglt hLw hAb (by omega) tv rsv gv HX2.out hq2 ha2; have bv : Box7 v L _ := blk_keep Jd.out.bx gv hLg; have y6' := bv.at.c6; have y6'' := (bv.below ((Below.refl _ _).alloc (Nat.le_refl _) (.cells #[.int .i64 R.k, .int .i64 R.n, .bool R.g, .slice R.A R.ln R.lc, .int .u64 R.u, .string R.s, .slice R.B R.m R.d] 28))).at.c6; have HR := Lib.hid hrun; have H3 := Lib.hid J3; have x6 := bx3.at.c6; have g6 := bx3.frozen 6; clear hrun J3 Q gv rsv tv))
            all_goals
              go_wp2_with fail
              exact ⟨⟨j + 1, by omega, by go_num, .inl ⟨_, _, _, _, _, H3.out⟩⟩, by simp [intOf]; omega⟩
        · have hd1 : decide ((j : Int) < (m : Int)) = false := by rw [decide_eq_false_iff_not]; omega
          have e : j = m := by omega
          subst e
          have T : Ta w g L A n c B X wr ⟨kz, 0, false, none, 0, 0, 0, ⟨#[]⟩, X', j, d⟩ := ⟨J.bx, J.br, J.gr, .inr ⟨_, _, _, by rw [HEQ.out, J.eq]; rfl, TVS.node (J.row.tvs.mono fun b hb => by omega) (by omega) (by omega) (by omega) (by omega) (by omega) (by omega) (by decide), J.rs⟩⟩
          clear J x2
          have y0 := T.bx.at.c0; have y1 := T.bx.at.c1; have y2 := T.bx.at.c2; have y3 := T.bx.at.c3; have y4 := T.bx.at.c4; have y5 := T.bx.at.c5; have y6 := T.bx.at.c6
          have f0 := T.br.frozen 0; have f1 := T.br.frozen 1; have f2 := T.br.frozen 2; have f3 := T.br.frozen 3; have f4 := T.br.frozen 4; have f5 := T.br.frozen 5; have f6 := T.br.frozen 6
          have z0 := T.br.at.c0; have z1 := T.br.at.c1; have z2 := T.br.at.c2; have z3 := T.br.at.c3; have z4 := T.br.at.c4; have z5 := T.br.at.c5; have z6 := T.br.at.c6
          go_wp2
          have C := (T.br.put ⟨kz, 0, false, none, 0, 0, 0, ⟨#[]⟩, X', j, d⟩).at
          have F := T.fin hglt hav2
          clear y0 y1 y2 y3 y4 y5 y6 f0 f1 f2 f3 f4 f5 f6 z0 z1 z2 z3 z4 z5 z6 T
          have y0 := C.c0; have y1 := C.c1; have y2 := C.c2; have y3 := C.c3; have y4 := C.c4; have y5 := C.c5; have y6 := C.c6
          clear C
          change bodyPost _ _ _ _ _ (put7 wr w.heap.size ⟨kz, 0, false, none, 0, 0, 0, ⟨#[]⟩, X', j, d⟩)
          generalize put7 wr w.heap.size ⟨kz, 0, false, none, 0, 0, 0, ⟨#[]⟩, X', j, d⟩ = W5 at *
          exact bodyPost_ret (v := .agg #[.int .i64 kz, .int .i64 0, .bool false, .slice none 0 0, .int .u64 0, .string ⟨#[]⟩, .slice X' j d]) (by simp [results, Try.results28, go_sem, y0, y1, y2, y3, y4, y5, y6]) rfl F
      · obtain ⟨R, bxR⟩ := J.bx
        obtain ⟨ab, qb, rsb⟩ := J.rs
        have x2 := rsb.bx.c2
        have T : Ta w g L A n c B X wr R := ⟨bxR, J.br, J.gr, .inl ⟨by rw [HEQ.out, hno.out]; rfl, ab, qb, rsb⟩⟩
        clear J
        have y0 := T.bx.at.c0; have y1 := T.bx.at.c1; have y2 := T.bx.at.c2; have y3 := T.bx.at.c3; have y4 := T.bx.at.c4; have y5 := T.bx.at.c5; have y6 := T.bx.at.c6
        have f0 := T.br.frozen 0; have f1 := T.br.frozen 1; have f2 := T.br.frozen 2; have f3 := T.br.frozen 3; have f4 := T.br.frozen 4; have f5 := T.br.frozen 5; have f6 := T.br.frozen 6
        have z0 := T.br.at.c0; have z1 := T.br.at.c1; have z2 := T.br.at.c2; have z3 := T.br.at.c3; have z4 := T.br.at.c4; have z5 := T.br.at.c5; have z6 := T.br.at.c6
        by_cases hjm : j < m
        · have hd1 : decide ((j : Int) < (m : Int)) = true := by rw [decide_eq_true_iff]; omega
          go_wp2
          have C := (T.br.put R).at
          have F := T.fin hglt hav2
          clear y0 y1 y2 y3 y4 y5 y6 f0 f1 f2 f3 f4 f5 f6 z0 z1 z2 z3 z4 z5 z6 T
          have y0 := C.c0; have y1 := C.c1; have y2 := C.c2; have y3 := C.c3; have y4 := C.c4; have y5 := C.c5; have y6 := C.c6
          clear C
          change bodyPost _ _ _ _ _ (put7 wr w.heap.size R)
          generalize put7 wr w.heap.size R = W5 at *
          exact bodyPost_ret (v := .agg #[.int .i64 R.k, .int .i64 R.n, .bool R.g, .slice R.A R.ln R.lc, .int .u64 R.u, .string R.s, .slice R.B R.m R.d]) (by simp [results, Try.results28, go_sem, y0, y1, y2, y3, y4, y5, y6]) rfl F
        · have hd1 : decide ((j : Int) < (m : Int)) = false := by rw [decide_eq_false_iff_not]; omega
          go_wp2
          have C := (T.br.put R).at
          have F := T.fin hglt hav2
          clear y0 y1 y2 y3 y4 y5 y6 f0 f1 f2 f3 f4 f5 f6 z0 z1 z2 z3 z4 z5 z6 T
          have y0 := C.c0; have y1 := C.c1; have y2 := C.c2; have y3 := C.c3; have y4 := C.c4; have y5 := C.c5; have y6 := C.c6
          clear C
          change bodyPost _ _ _ _ _ (put7 wr w.heap.size R)
          generalize put7 wr w.heap.size R = W5 at *
          exact bodyPost_ret (v := .agg #[.int .i64 R.k, .int .i64 R.n, .bool R.g, .slice R.A R.ln R.lc, .int .u64 R.u, .string R.s, .slice R.B R.m R.d]) (by simp [results, Try.results28, go_sem, y0, y1, y2, y3, y4, y5, y6]) rfl F
end Go.Proofs.Ytomohdfcggghoaa
