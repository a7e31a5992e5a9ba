/-
  CONTRACT OF THE REFERENCE's Of (floats).
-/
import Derived.Test.YtompimbeaeinbaaGreatFltAw
namespace Go.Proofs.YtompimbeaeinbaaGreat
open Go.RowKit

/-- V is u * 2^up and something, which 'rest' tells. -/
def St (V u up : Nat) (rest : Bool) : Prop := ∃ r, V = u * 2 ^ up + r ∧ r < 2 ^ up ∧ rest = decide (r ≠ 0) ∧ (up = 0 ∨ 4611686018427387904 ≤ u) ∧ u < 9223372036854775808

set_option maxRecDepth 100000 in
theorem St.zero : St 0 0 0 false := ⟨0, rfl, by decide, rfl, Or.inl rfl, by decide⟩
set_option maxRecDepth 100000 in
theorem St.low {V u up : Nat} {rest : Bool} (h : St V u up rest) (hu : u < 4611686018427387904) (b : Nat) (hb : b < 2) : St (2 * V + b) (u * 2 + b) up rest := by
  obtain ⟨r, h1, h2, h3, h4, h5⟩ := h
  have hup : up = 0 := by omega
  subst hup
  have hr : r = 0 := by simpa using h2
  subst hr
  refine ⟨0, ?_, h2, h3, Or.inl rfl, by omega⟩
  rw [h1, Nat.pow_zero]; omega
set_option maxRecDepth 100000 in
theorem St.high {V u up : Nat} {rest : Bool} (h : St V u up rest) (hu : 4611686018427387904 ≤ u) (b : Nat) (hb : b < 2) : St (2 * V + b) u (up + 1) (rest || decide (b = 1)) := by
  obtain ⟨r, h1, h2, h3, h4, h5⟩ := h
  refine ⟨2 * r + b, ?_, ?_, ?_, Or.inr hu, h5⟩
  · rw [h1, Nat.pow_succ, Nat.mul_add, ← Nat.mul_assoc, Nat.mul_comm 2, Nat.mul_assoc u, Nat.mul_comm 2]; omega
  · rw [Nat.pow_succ]; omega
  · rw [h3, ← Bool.decide_or, decide_eq_decide]; omega
set_option maxRecDepth 100000 in
theorem bit_step (V x t : Nat) : V * 2 ^ (32 - t) + x / 2 ^ t = V * 2 ^ (32 - t) + (2 * (x / 2 ^ (t + 1)) + x / 2 ^ t % 2) := by
  have : x / 2 ^ (t + 1) = x / 2 ^ t / 2 := by rw [Nat.pow_succ, Nat.div_div_eq_div_mul]
  rw [this]; omega

set_option maxRecDepth 100000 in
theorem band_bit {X t : Nat} (h : X < 4294967296) : bits .and .u64 ((X : Int) / 2 ^ t) 1 = ((X / 2 ^ t % 2 : Nat) : Int) := by
  have e : ((X : Int) / 2 ^ t) = ((X / 2 ^ t : Nat) : Int) := by push_cast; rfl
  have hle : X / 2 ^ t ≤ X := Nat.div_le_self ..
  rw [e]
  generalize X / 2 ^ t = y at *
  rw [u64_and _ _ (by omega) (by omega) (by decide) (by decide), Int.toNat_natCast, show (1 : Int).toNat = 1 from rfl]
  congr 1
  exact Nat.and_one_is_mod _
set_option maxRecDepth 100000 in
theorem val_step (V X t : Nat) (ht : t < 32) : V * 2 ^ (32 - t) + X / 2 ^ t = 2 * (V * 2 ^ (32 - (t + 1)) + X / 2 ^ (t + 1)) + X / 2 ^ t % 2 := by
  have e1 : 2 ^ (32 - t) = 2 * 2 ^ (32 - (t + 1)) := by rw [← Nat.pow_succ']; congr 1; omega
  have e2 : X / 2 ^ (t + 1) = X / 2 ^ t / 2 := by rw [Nat.pow_succ, Nat.div_div_eq_div_mul]
  rw [e1, e2, Nat.mul_left_comm]
  omega
set_option maxRecDepth 100000 in
/-- What the bits come to at last. -/
theorem St.fin {V u up : Nat} {rest : Bool} (h : St V u up rest) (hup : up ≤ 256) :
    (rest = false ∧ u = 0 ∧ V = 0 ∧ up = 0) ∨ (∃ u', u' ≠ 0 ∧ u' < 2 ^ 64 ∧ Fl.ofN V = Fl.ofN u' + up * Fl.B ∧ (rest = false ∧ u' = u ∨ rest = true ∧ u' = u / 2 * 2 + 1)) := by
  obtain ⟨r, h1, h2, h3, h4, h5⟩ := h
  by_cases h0 : u = 0
  · left
    have hu : up = 0 := by omega
    subst hu h0
    have hr : r = 0 := by simpa using h2
    subst hr
    refine ⟨by rw [h3]; rfl, rfl, by rw [h1, Nat.zero_mul], rfl⟩
  · right
    have hl : u.log2 < 63 := (Nat.log2_lt h0).2 (by omega)
    by_cases hr : r = 0
    · refine ⟨u, h0, by omega, ?_, Or.inl ⟨by rw [h3, hr]; rfl, rfl⟩⟩
      rw [h1, hr, Nat.add_zero, Fl.ofN_mul h0 (by omega)]
    · have hu : 4611686018427387904 ≤ u := by
        rcases h4 with h4 | h4
        · subst h4; simp at h2; omega
        · exact h4
      have hlog : u.log2 = 62 := Fl.log2_eq (by omega) (by omega)
      have hlog' : (u / 2 * 2 + 1).log2 = 62 := Fl.log2_eq (by omega) (by omega)
      refine ⟨u / 2 * 2 + 1, by omega, by omega, ?_, Or.inr ⟨by rw [h3]; exact decide_eq_true hr, rfl⟩⟩
      rw [h1, Fl.sticky (by omega) h2 (by omega) (by omega), Fl.ofN_mul (by omega) (by omega)]

set_option maxRecDepth 100000 in
set_option maxHeartbeats 1000000 in
theorem Ldexp_zero (w : World) (e : Int) :
    Calls Tryz.prog 59 #[.float .f64 0, .int .i64 e] w fun r w' => r = .returned (.float .f64 0) ∧ w = w' := by
  have o0 := flt_eq zero_nan zero_nan
  rw [decide_eq_true rfl] at o0
  have inner : ∀ w, Calls Tryz.prog 82 #[.float .f64 0, .int .i64 e] w fun r w' => r = .returned (.float .f64 0) ∧ w = w' := by
    intro w
    go_enter Tryz.func82, Tryz.ntmps82
    go_wp2
    go_ret
    exact ⟨rfl, rfl⟩
  go_enter Tryz.func59, Tryz.ntmps59
  go_wp2_with (go_at_call 82; refine (inner _).mono ?_; rintro r w' ⟨rfl, rfl⟩)
  go_ret
  exact ⟨rfl, rfl⟩
set_option maxRecDepth 100000 in
theorem clean_word {g : Bool} {N : Nat} : cleanN (Ieee.double.word g (Fl.ofN N)) = Ieee.double.word g (Fl.ofN N) := by
  unfold cleanN
  rw [if_neg]
  unfold Fl.nanB
  rw [Fl.word_rg (Fl.ofN_lt N), decide_eq_true_iff]
  have := Fl.ofN_le N
  omega
set_option maxRecDepth 100000 in
theorem word_lt2 (g : Bool) (N : Nat) : Ieee.double.word g (Fl.ofN N) < 2 * Fl.S := by
  have := Fl.ofN_lt N
  unfold Ieee.Format.word; rw [Fl.sw_eq]; split <;> omega

set_option maxRecDepth 100000 in
set_option maxRecDepth 100000 in
set_option maxHeartbeats 2000000 in
theorem refOfF_any (w : World) (g : Bool) (A : Option Addr) (n c : Nat) (l : List Nat) (h : Raw w A n c l) :
    Calls Tryz.prog 32 #[.agg #[.bool g, .slice A n c]] w fun e w' => e = .returned (.int .u64 (ofR g l : Nat)) ∧ Below w.heap.size w w' := by
  have c2 := call_bits
  have hbx := Box.new w (.bool g) (.slice A n c)
  have hb0 := (Below.refl w.heap.size w).alloc (Nat.le_refl _) (.cells #[.bool g, .slice A n c] 24)
  have hR0 := h.below hb0
  generalize hW : w.alloc (.cells #[.bool g, .slice A n c] 24) = W at *
  have x0 := hbx.c0
  have x1 := hbx.c1
  cases hm : mayB g l with
  | false =>
    have fin : Hid (ofR g l = 0) := Lib.hid (by unfold ofR; rw [hm]; rfl)
    go_enter Tryz.func32, Tryz.ntmps32
    go_wp2_with fail
    refine (refMay_b W g A n c l hR0).mono ?_
    rintro e w1 ⟨rfl, hb1⟩
    go_wp2
    go_ret
    rw [fin.out]
    exact ⟨rfl, hb0.trans (hb1.mono hb0.size)⟩
  | true =>
    have hn8 := mayB_len hm
    rw [h.1.1] at hn8
    have HM := Lib.hid hm
    go_enter Tryz.func32, Tryz.ntmps32
    go_wp2_with fail
    refine (refMay_b W g A n c l hR0).mono ?_
    rintro e w1 ⟨rfl, hb1⟩
    have hbx1 := hbx.below' hb1
    have hR1 := hR0.below hb1
    have e1 := hb0.trans (hb1.mono hb0.size)
    clear x0 x1 hbx hR0 hb0 hb1 hW
    have x0 := hbx1.c0
    have x1 := hbx1.c1
    go_wp2_with fail
    go_loop [3, 4, 5, 6] (fun a b d i => ∃ (j u up : Nat) (rest : Bool), j ≤ n ∧ a = .int .u64 (u : Int) ∧ b = .int .i64 (up : Int) ∧ d = .bool rest ∧ i = .int .i64 ((j : Int) - 1) ∧ up ≤ 32 * (n - j) ∧ Hid (St (Lm.val (l.drop j)) u up rest)) (fun _ _ _ i => (intOf i + 1).toNat)
    case atStart => exact ⟨n, 0, 0, false, Nat.le_refl _, rfl, rfl, rfl, by go_num, by omega, Lib.hid (by rw [List.drop_of_length_le (by rw [h.1.1]; exact Nat.le_refl _)]; exact St.zero)⟩
    case round =>
      obtain ⟨j, u, up, rest, hj, rfl, rfl, rfl, rfl, hup, hst⟩ := hrel
      cases j with
      | zero =>
        rw [List.drop_zero] at hst
        have hN0 := fun w => run_neg_flt (P := Tryz.prog) (Fl.ofN_lt (Lm.val l)) w
        have hcl := Lib.hid (clean_word (g := g) (N := Lm.val l))
        have hwl := word_lt2 g (Lm.val l)
        have fin : Hid (ofR g l = Ieee.double.word g (Fl.ofN (Lm.val l))) := Lib.hid (by unfold ofR; rw [HM.out, if_pos rfl])
        have hbt := fun w => refBits_any w (Ieee.double.word g (Fl.ofN (Lm.val l))) hwl
        rw [hcl.out] at hbt
        rcases St.fin hst.out (by omega) with ⟨rfl, rfl, hV, rfl⟩ | ⟨u', hu0, hu64, hV, hru⟩
        · have f0 : floatOfInt .f64 ((0 : Nat) : Int) = 0 := by rw [floatOf_nat, Fl.ofN_zero]
          have f0' : floatOfInt .f64 0 = 0 := f0
          have hg0 : g = false := by
            cases g with
            | false => rfl
            | true =>
              have := val_pos_of_neg HM.out h.1.2.2.1
              omega
          subst hg0
          rw [hV, Fl.ofN_zero, Fl.word_false] at hbt fin
          clear f0 hst hN0 hcl hwl HM
          go_wp2_with fail
          refine (Ldexp_zero _ _).mono ?_
          rintro r w' ⟨rfl, rfl⟩
          go_wp2_with fail
          refine (hbt _).mono ?_
          rintro r w' ⟨rfl, rfl⟩
          go_wp2
          go_ret
          rw [fin.out]
          exact ⟨rfl, e1⟩
        · obtain ⟨P1, P2⟩ := pos_of hu0 hu64
          have hL := fun w => Ldexp_pos w (Fl.ofN u') up P1 (by omega)
          rw [← hV] at hL
          have fu := floatOf_nat u'
          have hor : Hid (u < 18446744073709551616) := Lib.hid (by have := hst.out; obtain ⟨_, _, _, _, _, h5⟩ := this; omega)
          rcases hru with ⟨rfl, rfl⟩ | ⟨rfl, hu'⟩
          · clear hst hcl hwl hV P1 P2 hu64 hu0 hor
            cases g with
            | false =>
              rw [Fl.word_false] at hbt fin
              go_wp2_with fail
              refine (hL _).mono ?_
              rintro r w' ⟨rfl, rfl⟩
              go_wp2_with fail
              refine (hbt _).mono ?_
              rintro r w' ⟨rfl, rfl⟩
              go_wp2
              go_ret
              rw [fin.out]
              exact ⟨rfl, e1⟩
            | true =>
              go_wp2_with fail
              refine (hL _).mono ?_
              rintro r w' ⟨rfl, rfl⟩
              go_wp2_with fail
              refine (hbt _).mono ?_
              rintro r w' ⟨rfl, rfl⟩
              go_wp2
              go_ret
              rw [fin.out]
              exact ⟨rfl, e1⟩
          · have ho := or_odd hor.out
            rw [← hu'] at ho
            clear hst hcl hwl hV P1 P2 hu64 hu0 hor hu'
            cases g with
            | false =>
              rw [Fl.word_false] at hbt fin
              go_wp2_with fail
              refine (hL _).mono ?_
              rintro r w' ⟨rfl, rfl⟩
              go_wp2_with fail
              refine (hbt _).mono ?_
              rintro r w' ⟨rfl, rfl⟩
              go_wp2
              go_ret
              rw [fin.out]
              exact ⟨rfl, e1⟩
            | true =>
              go_wp2_with fail
              refine (hL _).mono ?_
              rintro r w' ⟨rfl, rfl⟩
              go_wp2_with fail
              refine (hbt _).mono ?_
              rintro r w' ⟨rfl, rfl⟩
              go_wp2
              go_ret
              rw [fin.out]
              exact ⟨rfl, e1⟩
      | succ j =>
        have ej : (((j + 1 : Nat) : Int) - 1) = (j : Int) := by omega
        rw [ej]
        obtain ⟨b, o, hA, hlt, hcell⟩ := hR1.1.2.2.2 (by omega)
        subst hA
        have hg := hcell j (by omega)
        clear hcell
        have hlg := Lm.lg_lt hR1.1.2.2.1 j
        generalize hX : Lm.lg l j = X at *
        go_wp2_with fail
        go_loop [3, 4, 5, 7] (fun a b d k => ∃ (t u up : Nat) (rest : Bool), t ≤ 32 ∧ a = .int .u64 (u : Int) ∧ b = .int .i64 (up : Int) ∧ d = .bool rest ∧ k = .int .i64 ((t : Int) - 1) ∧ up ≤ 32 * (n - (j + 1)) + (32 - t) ∧ Hid (St (Lm.val (l.drop (j + 1)) * 2 ^ (32 - t) + X / 2 ^ t) u up rest)) (fun _ _ _ k => (intOf k + 1).toNat)
        case atStart => exact ⟨32, u, up, rest, Nat.le_refl _, rfl, rfl, rfl, by go_num, by omega, Lib.hid (by rw [Nat.sub_self, Nat.pow_zero, Nat.mul_one, Nat.div_eq_of_lt (by omega), Nat.add_zero]; exact hst.out)⟩
        case round =>
          obtain ⟨t, u, up, rest, ht, rfl, rfl, rfl, rfl, hup, hst⟩ := hrel
          cases t with
          | zero =>
            have fin : Hid (Lm.val (l.drop j) = Lm.val (l.drop (j + 1)) * 2 ^ (32 - 0) + X / 2 ^ 0) := Lib.hid (by
              rw [← hX]
              have hl := h.1.1
              rw [List.drop_eq_getElem_cons (by omega)]
              simp only [Lm.val, Lm.lg, Nat.pow_zero, Nat.div_one]
              rw [List.getD_eq_getElem?_getD, List.getElem?_eq_getElem (by omega), Option.getD_some]
              omega)
            go_wp2
            exact ⟨⟨j, u, up, rest, by omega, rfl, rfl, rfl, rfl, by omega, Lib.hid (by rw [fin.out]; exact hst.out)⟩, by simp [intOf]⟩
          | succ t =>
            have et : (((t + 1 : Nat) : Int) - 1) = (t : Int) := by omega
            rw [et]
            have hbit : X / 2 ^ t % 2 < 2 := Nat.mod_lt _ (by decide)
            have hband := Lib.hid (band_bit (t := t) hlg)
            by_cases hu0 : u < 4611686018427387904
            · have hu : (u : Int) < 4611686018427387904 := by omega
              have HU := Lib.hid hu0
              clear hu0
              go_wp2
              have hu0 := HU.out
              refine ⟨⟨t, u * 2 + X / 2 ^ t % 2, up, rest, by omega, ?_, rfl, rfl, rfl, by omega, Lib.hid (by rw [val_step _ _ _ (by omega)]; exact hst.out.low HU.out _ hbit)⟩, by simp [intOf]⟩
              rw [hband.out, IntKind.wrap_u64]
              refine congrArg (Value.int .u64) ?_
              omega
            · have hu : ¬ (u : Int) < 4611686018427387904 := by omega
              have HU := Lib.hid hu0
              clear hu0
              have hhi : 4611686018427387904 ≤ u := by have := HU.out; omega
              have HH := Lib.hid hhi
              clear hhi
              cases rest with
              | true =>
                go_wp2
                refine ⟨⟨t, u, up + 1, true, by omega, rfl, by go_num, rfl, rfl, by omega, Lib.hid (by rw [val_step _ _ _ (by omega)]; exact hst.out.high HH.out _ hbit)⟩, by simp [intOf]⟩
              | false =>
                go_wp2
                refine ⟨⟨t, u, up + 1, decide (X / 2 ^ t % 2 = 1), by omega, rfl, by go_num, ?_, rfl, by omega, Lib.hid (by rw [val_step _ _ _ (by omega)]; have := hst.out.high HH.out _ hbit; rwa [Bool.false_or] at this)⟩, by simp [intOf]⟩
                rw [hband.out]
                refine congrArg Value.bool ?_
                rw [Bool.eq_iff_iff, beq_iff_eq, decide_eq_true_iff]
                omega
end Go.Proofs.YtompimbeaeinbaaGreat
