/-
  THE LAW ArenaScript.
-/
import Derived.Test.YtmgikdkcdihdlaaAnJ
import Derived.Deep.CutBlock
import Derived.Deep.CutRange
namespace Go.Proofs.Ytmgikdkcdihdlaa
open Go.RowKit
open An

set_option maxRecDepth 100000 in
set_option maxRecDepth 100000 in
theorem num_any (x : Int) (w : World) : Calls Try.prog 11 #[.int .i64 x] w fun r w' => r = .returned (.int .i64 x) ∧ w = w' := by
  go_enter Try.func11, Try.ntmps11
  go_wp2
  go_ret
  exact ⟨rfl, rfl⟩

set_option maxRecDepth 100000 in
set_option maxRecDepth 100000 in
set_option maxHeartbeats 4000000 in
theorem arenaScript_walk {W : World} (bud : Int) {B : Option Addr} {m c : Nat} {l : List Act2} (h : Acs W B m c l) :
    Calls Try.prog 3 #[.int .i64 bud, .slice B m c] W fun r w' => r = .returned (.bool true) ∧ Below W.heap.size W w' := by
  have hcm : c ≤ 9223372036854775807 := h.cm
  have hmc := h.mc
  have HA := Lib.hid h
  clear h
  by_cases hm : m ≤ 100
  · have hd0 : decide ((100 : Int) < (m : Int)) = false := decide_eq_false (by omega)
    by_cases hbud : 0 ≤ bud ∧ bud ≤ 16777216
    · have HN := Lib.hid (newA_any bud hbud W)
      have HN2 := Lib.hid (fun w => newR_any bud hbud w)
      go_enter Try.func3, Try.ntmps3
      go_wp2_with (first
        | (go_at_call 7; (with_reducible refine HN.out.mono ?_); rintro r w1 ⟨rfl, h1, h2, h3⟩; replace h1 := Lib.hid h1; replace h2 := Lib.hid h2; replace h3 := Lib.hid h3; clear HN)
        | (go_at_call 8; (with_reducible refine (HN2.out _).mono ?_); rintro r w2 ⟨rfl, k1, k2, k3⟩; replace k1 := Lib.hid k1; replace k2 := Lib.hid k2; clear k3 HN2))
      have HI : Hid (AsI W (W.heap.size + 1) W.heap.size w1.heap.size ⟨bud, 0, 0, []⟩ w2) := Lib.hid (by
        have hs := h3.out
        exact ⟨h1.out.below k2.out, k1.out, by omega, Nat.le_refl _, by omega, h2.out.trans (k2.out.mono h2.out.size)⟩)
      have HO : Hid (Ok 0 ⟨bud, 0, 0, []⟩) := Lib.hid (Ok.new hbud)
      clear h1 h2 h3 k1 k2
      generalize W.heap.size + 1 = S at HI ⊢
      generalize hwb : W.heap.size = b at HI ⊢
      replace hwb := Lib.hid hwb
      generalize w1.heap.size = R at HI ⊢
      generalize (⟨bud, 0, 0, []⟩ : Ars) = s0 at HI HO
      go_loopw [7] (fun x w' => ∃ (i : Nat) (s : Ars), i ≤ m ∧ x = .int .i64 (i : Int) ∧ AsI W S b R s w' ∧ Ok (i : Int) s) (fun x _ => m - (intOf x).toNat)
      case atStart => exact ⟨0, s0, Nat.zero_le _, rfl, HI.out, HO.out⟩
      case round =>
        clear HI HO
        obtain ⟨i, s, hi, rfl, hsc, hok⟩ := hrel
        by_cases him : i < m
        · have hd1 : decide ((i : Int) < (m : Int)) = true := decide_eq_true (by omega)
          have hac := HA.out.below (hsc.be.mono (Nat.le_refl _))
          obtain ⟨bb, o, rfl, hblt⟩ := hac.some (by omega)
          obtain ⟨y0, y1⟩ := hac.at him
          have hwf := Lib.hid (HA.out.wf i him)
          obtain ⟨a, ha⟩ : ∃ a, a = ag l i := ⟨_, rfl⟩
          rw [← ha] at y0 y1 hwf
          have HS := Lib.hid hsc
          have HO := Lib.hid hok
          clear hac hsc hok ha hblt
          go_upto_block 2 with fail
          go_cut [9, 10, 11, 12, 13] from 30 to 115 (fun x x10 x11 x12 x13 wx => x = .bool true ∧ AsI W S b R (nextA s a) wx)
          case first =>
            by_cases hk : a.k = 0
            · have hn := Lib.hid (show nextA s a = takeS s a.n by unfold nextA; rw [if_pos hk])
              have P1 := Lib.hid (takeA_any HS.out.a HO.out (by omega) a.n)
              go_wp2_with (first
                | (go_at_call 9; (with_reducible refine P1.out.mono ?_); rintro r w4 ⟨rfl, hp⟩; have I := HS.out.one hp; have P2 := Lib.hid (takeR_any I.r HO.out (by omega) a.n); replace I := Lib.hid I; clear P1 hp)
                | (go_at_call 10; (with_reducible refine P2.out.mono ?_); rintro r w5 ⟨rfl, hp⟩; have I2 := I.out.two hp; replace I2 := Lib.hid I2; clear P2 hp)
                | (go_at_call 11; (with_reducible refine (num_any _ _).mono ?_); rintro r w6 ⟨rfl, rfl⟩))
              go_meet
              exact ⟨by simp, by rw [hn.out]; exact I2.out⟩
            · have hk0 : ¬ a.k = 0 := hk
              clear hk
              by_cases hk : a.k = 1
              · have hn := Lib.hid (show nextA s a = giveS s a.n by unfold nextA; rw [if_neg hk0, if_pos hk])
                have P1 := Lib.hid (giveA_any HS.out.a HO.out (by omega) a.n hwf.out)
                go_wp2_with (first
                  | (go_at_call 12; (with_reducible refine P1.out.mono ?_); rintro r w4 ⟨rfl, hp⟩; have I := HS.out.one hp; have P2 := Lib.hid (giveR_any I.r HO.out (by omega) a.n); replace I := Lib.hid I; clear P1 hp)
                  | (go_at_call 13; (with_reducible refine P2.out.mono ?_); rintro r w5 ⟨rfl, hp⟩; have I2 := I.out.two hp; replace I2 := Lib.hid I2; clear P2 hp))
                go_meet
                exact ⟨by simp, by rw [hn.out]; exact I2.out⟩
              · have hk1 : ¬ a.k = 1 := hk
                clear hk
                by_cases hk : a.k = 2
                · have hn := Lib.hid (show nextA s a = chargeS s a.n by unfold nextA; rw [if_neg hk0, if_neg hk1, if_pos hk])
                  have P1 := Lib.hid (chargeA_any HS.out.a HO.out (by omega) a.n)
                  go_wp2_with (first
                    | (go_at_call 14; (with_reducible refine P1.out.mono ?_); rintro r w4 ⟨rfl, hp⟩; have I := HS.out.one hp; have P2 := Lib.hid (chargeR_any I.r HO.out (by omega) a.n); replace I := Lib.hid I; clear P1 hp)
                    | (go_at_call 15; (with_reducible refine P2.out.mono ?_); rintro r w5 ⟨rfl, hp⟩; have I2 := I.out.two hp; replace I2 := Lib.hid I2; clear P2 hp)
                    | (go_at_call 11; (with_reducible refine (num_any _ _).mono ?_); rintro r w6 ⟨rfl, rfl⟩))
                  go_meet
                  exact ⟨by simp, by rw [hn.out]; exact I2.out⟩
                · have hk2 : ¬ a.k = 2 := hk
                  clear hk
                  by_cases hk : a.k = 3
                  · have hn := Lib.hid (show nextA s a = backS s a.n by unfold nextA; rw [if_neg hk0, if_neg hk1, if_neg hk2, if_pos hk])
                    have P1 := Lib.hid (backA_any HS.out.a HO.out (by omega) a.n)
                    go_wp2_with (first
                      | (go_at_call 16; (with_reducible refine P1.out.mono ?_); rintro r w4 ⟨rfl, hp⟩; have I := HS.out.one hp; have P2 := Lib.hid (backR_any I.r HO.out (by omega) a.n); replace I := Lib.hid I; clear P1 hp)
                      | (go_at_call 17; (with_reducible refine P2.out.mono ?_); rintro r w5 ⟨rfl, hp⟩; have I2 := I.out.two hp; replace I2 := Lib.hid I2; clear P2 hp))
                    go_meet
                    exact ⟨by simp, by rw [hn.out]; exact I2.out⟩
                  · have hn := Lib.hid (show nextA s a = s by unfold nextA; rw [if_neg hk0, if_neg hk1, if_neg hk2, if_neg hk])
                    go_wp2_with fail
                    go_meet
                    exact ⟨rfl, by rw [hn.out]; exact HS.out⟩
          case rest =>
            obtain ⟨rfl, I⟩ := hcut
            have hok2 := nextA_ok HO.out a
            rw [show (i : Int) + 1 = ((i + 1 : Nat) : Int) by omega] at hok2
            clear HS HO y0 y1 hwf
            generalize nextA s a = s' at *
            obtain ⟨A2, c2, hr⟩ := I.r
            have x3 := hr.c3
            have hlen := hok2.len
            have QU := Lib.hid (fun (n : Nat) => Calls.quiet_of (n := n) (used_any (I.a.drewN n) hok2 (by omega)))
            have RU := Lib.hid (fun (n : Nat) => Calls.quiet_of_same (n := n) ((usedR_any (I.r.drewN n) hok2 (by omega)).mono fun _ _ h => ⟨h.1, h.2.symm⟩))
            have QR := Lib.hid (fun (n : Nat) => Calls.quiet_of_same (n := n) ((regions_any (I.a.drewN n)).mono fun _ _ h => ⟨h.1, h.2.symm⟩))
            have HI := Lib.hid I
            have HO := Lib.hid hok2
            clear hr I hok2
            generalize sumn s'.L + s'.chg = z at QU RU
            go_wp2_with fail
            open BigFrame in
            go_quiet (first
              | (go_at_call 18; with_reducible exact QU.out _)
              | (go_at_call 19; with_reducible exact RU.out _)
              | (go_at_call 20; with_reducible exact QR.out _))
            go_wp2_with fail
            exact ⟨⟨i + 1, s', by omega, rfl, HI.out.drewN _, HO.out⟩, by simp [intOf]; omega⟩
        · have hd1 : decide ((i : Int) < (m : Int)) = false := decide_eq_false (by omega)
          have HS := Lib.hid hsc
          clear hsc hok
          go_wp2_with (go_at_call 6; (with_reducible refine (awake11 _).mono ?_); rintro r w6 ⟨rfl, hb6⟩; have I6 := Lib.hid (HS.out.below hb6); clear hb6)
          go_ret
          exact ⟨rfl, I6.out.be⟩
    · have HN := Lib.hid (newA_none bud (by omega) W)
      have HN2 := Lib.hid (newR_none bud (by omega) W)
      go_enter Try.func3, Try.ntmps3
      go_wp2_with (first
        | (go_at_call 7; (with_reducible refine HN.out.mono ?_); rintro r w1 ⟨rfl, rfl⟩)
        | (go_at_call 8; (with_reducible refine HN2.out.mono ?_); rintro r w2 ⟨rfl, rfl⟩)
        | (go_at_call 6; (with_reducible refine (awake11 _).mono ?_); rintro r w6 ⟨rfl, hb6⟩))
      go_ret
      exact ⟨rfl, hb6⟩
  · have hd0 : decide ((100 : Int) < (m : Int)) = true := decide_eq_true (by omega)
    go_enter Try.func3, Try.ntmps3
    go_wp2_with (go_at_call 6; (with_reducible refine (awake11 _).mono ?_); rintro r w6 ⟨rfl, hb6⟩)
    go_ret
    exact ⟨rfl, hb6⟩
end Go.Proofs.Ytmgikdkcdihdlaa
