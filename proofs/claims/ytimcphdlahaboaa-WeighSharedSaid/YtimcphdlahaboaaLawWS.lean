/-
  THE LAW WeighShared.
-/
import Derived.Test.YtimcphdlahaboaaLawW
import Derived.Test.YtimcphdlahaboaaTmH
import Derived.Test.YtimcphdlahaboaaLow
namespace Go.Proofs.Ytimcphdlahaboaa
open Go.RowKit

set_option maxRecDepth 100000 in
set_option maxHeartbeats 8000000 in
theorem weighShared_walk (w : World) (many : Int) :
    Calls Try.prog 5 #[.int .i64 many] w fun e w' => e = .returned (.bool true) ∧ Below w.heap.size w w' := by
  obtain ⟨n, hn, hlow⟩ := low_nat many 1000 (by omega) (by omega)
  have b0 := (Below.refl w.heap.size w).alloc (Nat.le_refl _) (.cells #[.int .i64 7, .int .i64 0, .bool false, .slice none 0 0, .int .u64 0, .string ⟨#[]⟩, .slice none 0 0] 28)
  have bx0 := Box7.new w (mkR 7 0 0 ⟨#[]⟩ none 0 0)
  have tv0 : TVS (· ≠ w.heap.size) (w.alloc (.cells #[.int .i64 7, .int .i64 0, .bool false, .slice none 0 0, .int .u64 0, .string ⟨#[]⟩, .slice none 0 0] 28)) (mkR 7 0 0 ⟨#[]⟩ none 0 0) tNil :=
    TVS.node (TVSs.nil _ _ none 0 (Nat.zero_le _)) (by omega) (by omega) (by omega) (by omega) (by omega) (by omega) (by decide)
  go_enter Try.func5, Try.ntmps5
  go_wp2_with fail
  refine (hlow w).mono ?_
  rintro e w1 ⟨rfl, rfl⟩
  clear hlow
  go_wp2_with fail
  generalize w.alloc (.cells #[.int .i64 7, .int .i64 0, .bool false, .slice none 0 0, .int .u64 0, .string ⟨#[]⟩, .slice none 0 0] 28) = W at *
  go_loopw [4, 5] (fun x i w' => ∃ (j q : Nat) (r : TR) (t : Tm), j ≤ n ∧ i = .int .i64 (j : Int) ∧ x = .int .i64 (q : Int) ∧ q = t.cap ∧ q ≤ 301 ∧ t.Ok ∧ Box7 w' w.heap.size r ∧ TVS (· ≠ w.heap.size) w' r t ∧ Below w.heap.size w w') (fun _ i _ => n - (intOf i).toNat)
  case atStart => exact ⟨0, 1, mkR 7 0 0 ⟨#[]⟩ none 0 0, tNil, Nat.zero_le _, rfl, rfl, by simp [Tm.cap, tNil, Tm.wt], by omega, by simp [tNil, Tm.Ok, Tm.Oks, ByteArray.size], bx0, tv0, b0⟩
  case round =>
    obtain ⟨j, q, r, t, hj, rfl, rfl, hq, hq1, hok, hbx, htv, hb⟩ := hrel
    clear bx0 tv0
    have y := hbx.at
    have y0 := y.c0
    have y1 := y.c1
    have y2 := y.c2
    have y3 := y.c3
    have y4 := y.c4
    have y5 := y.c5
    have y6 := y.c6
    clear y
    have hlt := hbx.lt
    by_cases hjn : j < n
    · have hd1 : decide ((j : Int) < (n : Int)) = true := by rw [decide_eq_true_iff]; omega
      have hor : (pairT 8 t t).cap = 2 * q + 1 ∧ 2 * (q : Int) + 1 ≤ 301 ∨ ((pairT 8 t t).cap = 301 ∧ 301 < 2 * (q : Int) + 1) := by
        have hcap := pair_cap (k := 8) t t (.inr rfl)
        rw [← hq] at hcap
        omega
      have f0 := hbx.frozen 0
      have f1 := hbx.frozen 1
      have f2 := hbx.frozen 2
      have f3 := hbx.frozen 3
      have f4 := hbx.frozen 4
      have f5 := hbx.frozen 5
      have f6 := hbx.frozen 6
      have HQ := Lib.hid hq
      have HB := Lib.hid hb
      have HX := Lib.hid hbx
      have HT := Lib.hid htv
      have HO := Lib.hid hok
      clear hq hb hbx htv hok
      rcases hor with ⟨hc, hc1⟩ | ⟨hc, hc1⟩
      all_goals
        have HC := Lib.hid hc
        clear hc
        go_wp2_with fail
        have hbx2 := HX.out.put (mkR 8 0 0 ⟨#[]⟩ (some ⟨wr.heap.size, 0, none⟩) 2 2)
        have tv2 := HT.out.keep ((Keeps.refl _ wr).put7 (g := w.heap.size) (by simp) (mkR 8 0 0 ⟨#[]⟩ (some ⟨wr.heap.size, 0, none⟩) 2 2))
        have hb2 := HB.out.put7 (g := w.heap.size) (Nat.le_refl _) (mkR 8 0 0 ⟨#[]⟩ (some ⟨wr.heap.size, 0, none⟩) 2 2)
        have hsz := put7_size wr w.heap.size (mkR 8 0 0 ⟨#[]⟩ (some ⟨wr.heap.size, 0, none⟩) 2 2)
        have T := TVSs.two tv2 tv2 (by rw [hsz]; omega)
        rw [hsz] at T
        have N := TVS.node (k := 8) (n := 0) (u := 0) (s := ⟨#[]⟩) T (by omega) (by omega) (by omega) (by omega) (by omega) (by omega) (by decide)
        refine ⟨⟨j + 1, _, mkR 8 0 0 ⟨#[]⟩ (some ⟨wr.heap.size, 0, none⟩) 2 2, pairT 8 t t, by omega, by go_num, ?_, rfl, ?_, pair_ok HO.out HO.out, hbx2.below ((Below.refl _ _).alloc (Nat.le_refl _) _), N, hb2.alloc (by rw [hsz]; omega) _⟩, by simp [intOf]; omega⟩
        · rw [HC.out]; go_num
        · rw [HC.out]; omega
    · have hd1 : decide ((j : Int) < (n : Int)) = false := by rw [decide_eq_false_iff_not]; omega
      go_wp2_with fail
      refine (weight_any _ r t htv.tv hok).mono ?_
      rw [← hq]
      rintro e w2 ⟨rfl, hb2⟩
      go_wp2_with fail
      refine (awake_tm _).mono ?_
      rintro e w3 ⟨rfl, hb3⟩
      go_wp2
      go_ret
      have e1 := hb.trans (hb2.mono hb.size)
      exact ⟨rfl, e1.trans (hb3.mono e1.size)⟩
end Go.Proofs.Ytimcphdlahaboaa
