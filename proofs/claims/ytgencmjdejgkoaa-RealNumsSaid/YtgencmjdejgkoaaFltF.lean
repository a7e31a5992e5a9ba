/-
  CONTRACTS OF math.Floor, math.Abs, real.whole.
-/
import Derived.Test.YtgencmjdejgkoaaFltE
import Derived.Test.YtgencmjdejgkoaaRefB
import Derived.Test.YtgencmjdejgkoaaRaw
namespace Go.Proofs.Ytgencmjdejgkoaa
open Go.RowKit

theorem floor_shape (a : Nat) (s : Bool) (m : Nat) (p : Int) (hd : FloatKind.f64.decode a = .number s m p) : Extern.MathFloor.toIntegral "math.archFloor" .down #[.float .f64 a] = pure (.float .f64 (FloatKind.f64.encode (Ieee.Datum.integral .down (.number s m p)))) := by
  show Extern.MathFloor.toIntegral.match_1 (fun _ => Sem Value) (FloatKind.f64.decode a) _ _ = _
  rw [hd]
theorem encode_eq (d : Ieee.Datum) : FloatKind.f64.encode d = Ieee.double.write d := rfl
theorem call_floor (a : Nat) (h : Fl.rg a < Fl.INF) (w : World) :
    (callFunc 64 #[.float .f64 a]).run Try.prog w = .ok (.value (.float .f64 (Ieee.double.word (Fl.ng a) (Fl.ofN (Fl.flr a).natAbs)))) w := by
  rw [run_callFunc_extern (e := Extern.MathFloor.toIntegral "math.archFloor" .down) Try.func64 (by kernel_rfl) (by kernel_rfl) (by kernel_rfl) (by kernel_rfl)]
  have h1 := Fl.floor_num h
  rw [floor_shape a _ _ _ (by rw [Fl.decode_eq]; exact Fl.read_num h), encode_eq, ← Fl.read_num h, h1]
  rfl

set_option maxHeartbeats 400000 in
theorem floor_any (w : World) (a : Nat) (h : Fl.rg a < Fl.INF) :
    Calls Try.prog 50 #[.float .f64 a] w fun e w' => e = .returned (.float .f64 (Ieee.double.word (Fl.ng a) (Fl.ofN (Fl.flr a).natAbs))) ∧ w = w' := by
  have c3 := fun w => call_floor a h w
  go_enter Try.func50, Try.ntmps50
  go_wp2
  go_ret
  exact ⟨rfl, rfl⟩

set_option maxHeartbeats 400000 in
theorem abs_any (w : World) (a : Nat) (h : a < 2 * Fl.S) :
    Calls Try.prog 63 #[.float .f64 a] w fun e w' => e = .returned (.float .f64 (Fl.rg a)) ∧ w = w' := by
  have c1 := call_frombits
  have c2 := call_bits
  have hu := U64.mk h
  have fin : Hid ((bits .andNot .u64 (a : Int) 9223372036854775808).toNat = Fl.rg a) := Lib.hid (by
    rw [bits_andNot hu]; simp)
  go_enter Try.func63, Try.ntmps63
  go_wp2
  go_ret
  rw [← fin.out]
  exact ⟨rfl, rfl⟩


theorem whole_sign {g : Bool} {K : Nat} : (FloatKind.f64.format.order (Ieee.double.word g (Fl.ofN K)) 0 == some .lt) = decide (sgn g K < 0) := by
  have hn : Fl.nanB (Ieee.double.word g (Fl.ofN K)) = false := by
    unfold Fl.nanB
    rw [Fl.word_rg (Fl.ofN_lt K)]
    exact decide_eq_false (by have := Fl.ofN_le K; omega)
  rw [flt_lt hn (by decide)]
  have h0 : Fl.si 0 = 0 := by decide
  have h1 := @Fl.ofN_eq_zero K
  rw [h0]
  unfold Fl.si
  rw [Fl.word_rg (Fl.ofN_lt K), Fl.word_ng (Fl.ofN_lt K)]
  unfold Fl.sgnd sgn
  rw [decide_eq_decide]
  cases g <;> simp <;> omega
theorem rest_pos (N : Nat) : (FloatKind.f64.format.order (Fl.ofN N) 0 == some .gt) = decide (N ≠ 0) := by
  have hn : Fl.nanB (Fl.ofN N) = false := by
    unfold Fl.nanB
    rw [Fl.pos_rg (Fl.ofN_lt N)]
    exact decide_eq_false (by have := Fl.ofN_le N; omega)
  rw [flt_gt hn (by decide)]
  have h0 : Fl.si 0 = 0 := by decide
  have h1 := @Fl.ofN_eq_zero N
  rw [h0]
  unfold Fl.si
  rw [Fl.pos_rg (Fl.ofN_lt N), Fl.pos_ng (Fl.ofN_lt N)]
  unfold Fl.sgnd
  rw [decide_eq_decide]
  simp
  omega

set_option maxRecDepth 100000 in
set_option maxHeartbeats 2000000 in
theorem whole_any (w : World) (g : Bool) (K : Nat) (hr : Fl.Rep K) (hK : K < Lm.top) :
    Calls Try.prog 49 #[.float .f64 (Ieee.double.word g (Fl.ofN K))] w (OnePost w (sgn g K)) := by
  have hw : Ieee.double.word g (Fl.ofN K) < 2 * Fl.S := by
    have := Fl.ofN_lt K
    unfold Ieee.Format.word; rw [Fl.sw_eq]; split <;> omega
  have hrg : Hid (Fl.rg (Ieee.double.word g (Fl.ofN K)) = Fl.ofN K) := Lib.hid (Fl.word_rg (Fl.ofN_lt K))
  have hsg : Hid ((FloatKind.f64.format.order (Ieee.double.word g (Fl.ofN K)) 0 == some .lt) = decide (sgn g K < 0)) := Lib.hid whole_sign
  have hlen : Hid ((Lm.digits K).length ≤ 8) := Lib.hid ((Lm.top_iff K).2 hK)
  clear hK
  generalize Ieee.double.word g (Fl.ofN K) = f at *
  go_enter Try.func49, Try.ntmps49
  go_wp2_with fail
  refine (abs_any _ _ hw).mono ?_
  rintro e w' ⟨rfl, rfl⟩
  rw [hrg.out, hsg.out]
  go_wp2_with fail
  have hb0 := ((Below.refl w.heap.size w).alloc (Nat.le_refl _) (.cells #[.bool false, .slice none 0 0] 31)).alloc (by simp) (.cells #[.bool (decide (sgn g K < 0)), .slice none 0 0] 31)
  have hx2 := (Box.new w (.bool false) (.slice none 0 0)).alloc (.cells #[.bool (decide (sgn g K < 0)), .slice none 0 0] 31)
  have hx3 := Box.new (w.alloc (.cells #[.bool false, .slice none 0 0] 31)) (.bool (decide (sgn g K < 0))) (.slice none 0 0)
  simp only [World.size_alloc] at hx3
  have hsz : ((w.alloc (.cells #[.bool false, .slice none 0 0] 31)).alloc (.cells #[.bool (decide (sgn g K < 0)), .slice none 0 0] 31)).heap.size = w.heap.size + 2 := by simp
  generalize (w.alloc (.cells #[.bool false, .slice none 0 0] 31)).alloc (.cells #[.bool (decide (sgn g K < 0)), .slice none 0 0] 31) = W at *
  go_loopw [4] (fun v w' => ∃ (N j : Nat) (A' : Option Addr) (c' : Nat) (t : List Nat), v = .float .f64 (Fl.ofN N) ∧ Fl.Rep N ∧ N ≤ K ∧ j ≤ 8 ∧ Own w' (w.heap.size + 2) A' j c' t ∧ Box w' w.heap.size (.bool false) (.slice none 0 0) ∧ Box w' (w.heap.size + 1) (.bool (decide (sgn g K < 0))) (.slice A' j c') ∧ Below w.heap.size w w' ∧ w.heap.size + 2 ≤ w'.heap.size ∧ Hid (Lm.digits K = t ++ Lm.digits N ∧ (Lm.digits N).length + j ≤ 8)) (fun v _ => match v with | .float _ b => b | _ => 0)
  case atStart => exact ⟨K, 0, none, 0, [], rfl, hr, Nat.le_refl _, by omega, Own.nil _ _, hx2, hx3, hb0, by omega, Lib.hid ⟨rfl, by have := hlen.out; omega⟩⟩
  case round =>
    obtain ⟨N, j, A', c', t, rfl, hrN, hNK, hj, ho, hB2, hB3, hbl, hsz', hinv⟩ := hrel
    have hpos := rest_pos N
    have hc1 := hB3.c1
    have hc0 := hB3.c0
    have hf1 := hB3.f1
    by_cases h0 : N = 0
    · rw [decide_eq_false (by simp [h0])] at hpos
      have hfin : Hid (Lm.digits K = t) := Lib.hid (by have := hinv.out.1; rw [h0, Lm.digits_zero, List.append_nil] at this; exact this)
      have hd0 := hB2.c0
      have hd1 := hB2.c1
      have hg0 := hB2.f0
      have hg1 := hB2.f1
      clear h0 hrN
      have ho' : Own wr (w.heap.size + 2) A' j c' (Lm.digits (sgn g K).natAbs) := by rw [natAbs_sgn, hfin.out]; exact ho
      obtain ⟨hE1, hE2, hE3⟩ := close_num (z := sgn g K) (base' := w.heap.size) hB2 (Nat.le_refl _) hbl (Lib.hid rfl) ho' (by omega)
      go_wp2
      generalize (wr.setCell ⟨w.heap.size, 0, none⟩ (.bool (decide (sgn g K < 0)))).setCell ⟨w.heap.size, 1, none⟩ (.slice A' j c') = Z at *
      have hy0 := hE1.c0
      have hy1 := hE1.c1
      refine bodyPost_ret (v := .agg #[.bool (decide (sgn g K < 0)), .slice A' j c']) (by simp [results, Try.results49, go_sem, hy0, hy1]) rfl ?_
      exact ⟨_, rfl, hE2, hE3⟩
    · rw [decide_eq_true h0] at hpos
      have q1 := fun w => run_float_arith (P := Try.prog) w .quo 36 .f64 _ _ _ (Fl.quo32 hrN h0)
      have q2 := fun w => run_float_arith (P := Try.prog) w .mul 36 .f64 _ _ _ (Fl.mul32 (Fl.rep_div hrN))
      have q3 := fun w => run_float_arith (P := Try.prog) w .sub 36 .f64 _ _ _ (Fl.sub_rep hrN (Fl.rep_mul hrN) (Nat.div_mul_le_self ..))
      have q4 := fun w => run_convert_float_int (P := Try.prog) w 36 49 .f64 .u32 (Fl.ofN (N - N / 4294967296 * 4294967296)) _ (by kernel_rfl) Try.underlying49 (Fl.conv32 (M := N - N / 4294967296 * 4294967296) (by omega))
      have hfl := fun w => floor_any w _ (Fl.quo32_fin hrN)
      rw [Fl.quo32_ng hrN, Fl.quo32_flr hrN h0, Int.natAbs_natCast, Fl.word_false] at hfl
      have hC : Fl.C32 = 4751297606875873280 := rfl
      rw [hC] at q1 q2
      clear hC
      go_wp2_with fail
      refine (hfl _).mono ?_
      rintro e w' ⟨rfl, rfl⟩
      obtain ⟨A2, c2, w2, hrun, hO2, hBe2⟩ := append_one wr (w.heap.size + 2) A' j c' t ho (N - N / 4294967296 * 4294967296) (by omega) (by omega) hsz' 29
      have hR := Lib.hid hrun
      clear hrun
      have hz2 := hB2.below hBe2 (by omega)
      have hz3 := hB3.below hBe2 (by omega)
      have hy1 := hz3.f1
      have hy2 := hz3.c1
      go_wp2_with (at_builtin; refine wpList_append_run rfl _ _ _ rfl _ _ _ rfl rfl hR.out ?_)
      have hdig : Lm.digits N = (N - N / 4294967296 * 4294967296) :: Lm.digits (N / 4294967296) := by
        rw [Lm.digits_pos h0]
        congr 1
        omega
      refine ⟨⟨N / 4294967296, j + 1, A2, c2, t ++ [N - N / 4294967296 * 4294967296], rfl, Fl.rep_div hrN, by omega, ?_, hO2.box hz3 1 _, hz2.far (by show w.heap.size ≠ w.heap.size + 1; omega) _, hz3.set1 _, (hbl.trans (hBe2.mono (by omega))).setCell (p := ⟨w.heap.size + 1, 1, none⟩) (by show w.heap.size ≤ w.heap.size + 1; omega) _, ?_, ?_⟩, ?_⟩
      · have := hinv.out.2
        rw [hdig, List.length_cons] at this
        omega
      · have := hBe2.size
        simp
        omega
      · refine Lib.hid ⟨?_, ?_⟩
        · rw [hinv.out.1, hdig]; simp
        · have := hinv.out.2
          rw [hdig, List.length_cons] at this
          omega
      · refine Fl.val_lt_iff.1 ?_
        rw [(Fl.rep_val hrN).1, (Fl.rep_val (Fl.rep_div hrN)).1]
        exact Nat.mul_lt_mul_of_pos_right (by omega) Fl.U_pos
end Go.Proofs.Ytgencmjdejgkoaa
