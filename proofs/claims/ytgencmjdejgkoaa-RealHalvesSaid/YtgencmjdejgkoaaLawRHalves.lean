/-
  THE LAW RealHalves.
-/
import Derived.Test.YtgencmjdejgkoaaLawRHalfA
namespace Go.Proofs.Ytgencmjdejgkoaa
open Go.RowKit

set_option maxRecDepth 100000 in
set_option maxHeartbeats 1000000 in
theorem realHalves_no (x : Int) (m r X L H : Nat) (hlow : ∀ w, Calls Try.prog 31 #[.int .i64 x, .int .i64 576460752303423488] w fun e w' => e = .returned (.int .i64 ((m : Int) - 9007199254740992)) ∧ w = w')
    (h1 : 9007199254740992 ≤ m) (h2 : m < 1152921504606846976) (hr : r < 9218868437227405312) (F : Half m r X L H) (N1 : L < X) (N2 : X < H) (N3 : H < 4611686018427387904) (N4 : X ≤ m ∨ X + L ≤ 2 * m) (N5 : m ≤ X ∨ 2 * m ≤ X + H) (N6 : L ≤ m) (N7 : m ≤ H) (N8 : Hid ((2 * m = X + H ∨ 2 * m + H = 3 * X) → m ≠ X → r % 2 = 0)) (w : World) :
    Calls Try.prog 8 #[.int .i64 x, .bool false] w fun e w' => e = .returned (.bool true) ∧ Below w.heap.size w w' := by
  have c1 := call_frombits
  have of_m := F.ho
  have of_n := F.hm
  have nx0 := F.n0
  have nx1 := F.n1
  have cx := F.cx
  have cl := F.cl
  have ch := F.ch
  have fx := F.fx
  have feq := F.eq
  have forr := F.orr
  have K1 := Lib.hid (And.intro N4 N5)
  have K2 := Lib.hid (And.intro N1 (And.intro N2 (And.intro N6 N7)))
  have K3 := Lib.hid N3
  clear F N1 N2 N3 N4 N5 N6 N7
  go_enter Try.func8, Try.ntmps8
  go_wp2_with fail
  refine (hlow _).mono ?_
  rintro e w' ⟨rfl, rfl⟩
  go_wp2_with fail
  rw [show (9007199254740992 : Int) + ((m : Int) - 9007199254740992) = (m : Int) by omega]
  refine (refOf_any _ (m : Int) (by omega) (by omega)).mono ?_
  rintro e w1 ⟨_, rfl, ⟨s1, A1, n1, c3, rfl, hs1, ho1⟩, hb1⟩
  go_wp2_with fail
  refine (of_m _ s1 A1 n1 c3 (Nm.of_own hs1 ho1)).mono ?_
  rintro e w2 ⟨rfl, hb2⟩
  go_wp2_with fail
  refine (nx0 _).mono ?_
  rintro e w' ⟨rfl, rfl⟩
  go_wp2_with fail
  refine (inf_pos _).mono ?_
  rintro e w' ⟨rfl, rfl⟩
  go_wp2_with fail
  refine (nx1 _).mono ?_
  rintro e w' ⟨rfl, rfl⟩
  have N12 := K2.out
  have N3 := K3.out
  go_wp2_with fail
  all_goals first
    | (exfalso
       clear c1 of_m of_n nx0 nx1 cx cl ch fx feq forr
       have k1 := K1.out
       have k2 := K2.out
       have k8 := N8.out
       clear K1 K2 N8
       omega)
    | (refine (refOf_any _ (-(m : Int)) (by omega) (by omega)).mono ?_
       rintro e w3 ⟨_, rfl, ⟨s2, A2, n2, c4, rfl, hs2, ho2⟩, hb3⟩
       go_wp2_with fail
       refine (of_n _ s2 A2 n2 c4 (Nm.of_own hs2 ho2)).mono ?_
       rintro e w4 ⟨rfl, hb4⟩
       go_wp2_with fail
       refine (awake_flt _).mono ?_
       rintro e w5 ⟨rfl, hb5⟩
       go_wp2
       go_ret
       have e2 := hb1.trans (hb2.mono hb1.size)
       have e3 := e2.trans (hb3.mono e2.size)
       have e4 := e3.trans (hb4.mono e3.size)
       exact ⟨rfl, e4.trans (hb5.mono e4.size)⟩)

set_option maxRecDepth 100000 in
set_option maxHeartbeats 2000000 in
theorem realHalves_yes (x : Int) (q : Nat) (hlow : ∀ w, Calls Try.prog 31 #[.int .i64 x, .int .i64 576460752303423488] w fun e w' => e = .returned (.int .i64 (q : Int)) ∧ w = w')
    (hq : q < 576460752303423488) (w : World) :
    Calls Try.prog 8 #[.int .i64 x, .bool true] w fun e w' => e = .returned (.bool true) ∧ Below w.heap.size w w' := by
  have c1 := call_frombits
  go_enter Try.func8, Try.ntmps8
  go_wp2_with fail
  refine (hlow _).mono ?_
  rintro e w' ⟨rfl, rfl⟩
  go_wp2_with fail
  go_loop [0] (fun i => ∃ m : Nat, i = .int .i64 (m : Int) ∧ 9007199254740992 ≤ m ∧ m < 1152921504606846976) (fun i => (intOf i).toNat)
  case atStart => exact ⟨(9007199254740992 + q) / 4 * 4 + 2, congrArg (Value.int .i64) (by omega), by omega, by omega⟩
  case round =>
    obtain ⟨m, rfl, h1, h2⟩ := hrel
    by_cases hm0 : 18014398509481984 ≤ m
    · have hm : (18014398509481984 : Int) ≤ (m : Int) := by omega
      have h1' : (9007199254740992 : Int) ≤ (m : Int) := by omega
      have h2' : (m : Int) < 1152921504606846976 := by omega
      have HH := Lib.hid (And.intro hm0 (And.intro h1 h2))
      clear hm0 h1 h2
      as_aux_lemma =>
        go_wp2
        have h9 := HH.out
        go_round
        case rel => exact ⟨m / 2 - m / 2 % 4 + 2, congrArg (Value.int .i64) (by omega), by omega, by omega⟩
        case measure => simp [intOf]; omega
    · have hm : ¬ (18014398509481984 : Int) ≤ (m : Int) := by omega
      clear hm0
      obtain ⟨X, L, H, NN⟩ := Fl.near_n h1 h2
      have F := half_of h1 h2 NN
      have hr : Fl.ofN m < 9218868437227405312 := by have := NN.hi; have e : Fl.INF = 9218868437227405312 := rfl; omega
      have N8 : Hid ((2 * m = X + H ∨ 2 * m + H = 3 * X) → m ≠ X → Fl.ofN m % 2 = 0) := Lib.hid NN.tie
      have K1 := Lib.hid (And.intro NN.dl NN.dh)
      have K2 := Lib.hid (And.intro NN.lx (And.intro NN.xh (And.intro NN.nl NN.nh)))
      have K3 := Lib.hid NN.top
      clear NN
      generalize Fl.ofN m = r at *
      have of_m := F.ho
      have of_n := F.hm
      have nx0 := F.n0
      have nx1 := F.n1
      have cx := F.cx
      have cl := F.cl
      have ch := F.ch
      have fx := F.fx
      have feq := F.eq
      have forr := F.orr
      clear F hlow hq
      as_aux_lemma =>
        go_wp2_with fail
        clear hm
        refine (refOf_any _ (m : Int) (by omega) (by omega)).mono ?_
        rintro e w1 ⟨_, rfl, ⟨s1, A1, n1, c3, rfl, hs1, ho1⟩, hb1⟩
        go_wp2_with fail
        refine (of_m _ s1 A1 n1 c3 (Nm.of_own hs1 ho1)).mono ?_
        rintro e w2 ⟨rfl, hb2⟩
        go_wp2_with fail
        refine (nx0 _).mono ?_
        rintro e w' ⟨rfl, rfl⟩
        go_wp2_with fail
        refine (inf_pos _).mono ?_
        rintro e w' ⟨rfl, rfl⟩
        go_wp2_with fail
        refine (nx1 _).mono ?_
        rintro e w' ⟨rfl, rfl⟩
        have N12 := K2.out
        have N3 := K3.out
        go_wp2_with fail
        all_goals first
          | (exfalso
             clear c1 of_m of_n nx0 nx1 cx cl ch fx feq forr
             have k1 := K1.out
             have k2 := K2.out
             have k8 := N8.out
             clear K1 K2 N8
             omega)
          | (refine (refOf_any _ (-(m : Int)) (by omega) (by omega)).mono ?_
             rintro e w3 ⟨_, rfl, ⟨s2, A2, n2, c4, rfl, hs2, ho2⟩, hb3⟩
             go_wp2_with fail
             refine (of_n _ s2 A2 n2 c4 (Nm.of_own hs2 ho2)).mono ?_
             rintro e w4 ⟨rfl, hb4⟩
             go_wp2_with fail
             refine (awake_flt _).mono ?_
             rintro e w5 ⟨rfl, hb5⟩
             go_wp2
             go_ret
             have e2 := hb1.trans (hb2.mono hb1.size)
             have e3 := e2.trans (hb3.mono e2.size)
             have e4 := e3.trans (hb4.mono e3.size)
             exact ⟨rfl, e4.trans (hb5.mono e4.size)⟩)

theorem realHalves_walk (x : Int) (half : Bool) (hx : (Lit.int .i64 x).wf = true) (w : World) :
    Calls Try.prog 8 #[.int .i64 x, .bool half] w fun e w' => e = .returned (.bool true) ∧ Below w.heap.size w w' := by
  have hlow := fun w => low_i w x 576460752303423488 hx (by decide) (by decide)
  have b1 := Int.emod_nonneg (x % 18446744073709551616) (show (576460752303423488 : Int) ≠ 0 by decide)
  have b2 := Int.emod_lt_of_pos (x % 18446744073709551616) (show (0 : Int) < 576460752303423488 by decide)
  generalize x % 18446744073709551616 % 576460752303423488 = y at *
  obtain ⟨q, rfl⟩ := Int.eq_ofNat_of_zero_le b1
  cases half with
  | true => exact realHalves_yes x q hlow (by omega) w
  | false =>
    have h1 : 9007199254740992 ≤ 9007199254740992 + q := by omega
    have h2 : 9007199254740992 + q < 1152921504606846976 := by omega
    obtain ⟨X, L, H, N⟩ := Fl.near_n h1 h2
    refine realHalves_no x (9007199254740992 + q) _ X L H (fun w => ?_) h1 h2 (by have := N.hi; have e : Fl.INF = 9218868437227405312 := rfl; omega) (half_of h1 h2 N) N.lx N.xh N.top N.dl N.dh N.nl N.nh (Lib.hid N.tie) w
    rw [show ((9007199254740992 + q : Nat) : Int) - 9007199254740992 = (q : Int) by omega]
    exact hlow w
end Go.Proofs.Ytgencmjdejgkoaa
