/-
  THE LAW StoreScript.
-/
import Derived.Test.YtacanobhfebnaaaStR
import Derived.Deep.RegionHeld3
import Derived.Deep.CutBlock
import Derived.Deep.CutRange
import Derived.Deep.Draws
namespace Go.Proofs.Ytacanobhfebnaaa
open Go.RowKit
open St

set_option maxRecDepth 100000 in
theorem Row3.drewN {w : World} {A : Option Addr} {n c : Nat} {L : List Slt} (h : Row3 w A n c L) (q : Nat) : Row3 (w.drewN q) A n c L := ⟨h.len, h.row⟩
set_option maxRecDepth 100000 in
theorem ScI.drew {W : World} {S R : Nat} {L1 L2 : List Slt} {K1 K2 : Nat → Prop} {w : World} (h : ScI W S R L1 L2 K1 K2 w) : ScI W S R L1 L2 K1 K2 w.drew := h.drewN 1
set_option maxRecDepth 100000 in
theorem XV.drew {K1 K2 : Nat → Prop} {X : Nat} {a : Act4} {w : World} (h : XV K1 K2 X a w) : XV K1 K2 X a w.drew := h.drewN 1

set_option maxRecDepth 100000 in
set_option maxRecDepth 100000 in
set_option maxHeartbeats 4000000 in
theorem storeScript_walk {W : World} {B : Option Addr} {m c : Nat} {l : List Act4} (h : Acs W B m c l) :
    Calls Try.prog 3 #[.slice B m c] W fun r w' => r = .returned (.bool true) ∧ Below W.heap.size W w' := by
  have HG := Lib.hid (great_any h)
  have hcm : c ≤ 9223372036854775807 := h.cm
  have hmc := h.mc
  have HA := Lib.hid h
  clear h
  have HN := Lib.hid (new_any W)
  go_enter Try.func3, Try.ntmps3
  go_upto_region 1 with fail
  go_cut [19] from 18 to 19 (fun x wx => ∃ g, x = .bool g ∧ (g = false → m ≤ 100 ∧ ∀ i, i < m → (ag l i).tx.size ≤ 500) ∧ W = wx)
  case first =>
    go_wp2_with (go_at_call 7; (with_reducible refine HG.out.mono ?_); rintro r w1 ⟨⟨g, rfl, hg⟩, rfl⟩; replace hg := Lib.hid hg)
    go_meet
    exact ⟨g, rfl, hg.out, rfl⟩
  case rest =>
    obtain ⟨g, rfl, hg, rfl⟩ := hcut
    cases g with
    | true =>
      clear HG hg
      go_wp2_with (go_at_call 8; (with_reducible refine (awake10 _).mono ?_); rintro r w6 ⟨rfl, hb6⟩)
      go_ret
      exact ⟨rfl, hb6⟩
    | false =>
      obtain ⟨hm, hsz⟩ := hg rfl
      have hsz := Lib.hid hsz
      clear hg HG
      go_wp2_with (go_at_call 9; (with_reducible refine HN.out.mono ?_); rintro r w1 ⟨rfl, h1, h2, h3⟩; replace h1 := Lib.hid h1; replace h2 := Lib.hid h2; replace h3 := Lib.hid h3)
      have HI : Hid (ScI W W.heap.size w1.heap.size [] [] (fun k => k = W.heap.size) (fun k => k = w1.heap.size) (w1.alloc (.cells #[.slice none 0 0] 30))) := Lib.hid (by
        have hb : Below w1.heap.size w1 (w1.alloc (.cells #[.slice none 0 0] 30)) := (Below.refl _ _).alloc (Nat.le_refl _) _
        have hs := h3.out
        refine ⟨h1.out.chg (Chg.below (K := fun _ => False) hb) (fun _ _ h => h), ⟨none, 0, ⟨heap_alloc_new w1 _, Row3.nil _⟩, ?_, ?_⟩, ?_, ?_, ?_, h2.out.trans (hb.mono h2.out.size)⟩
        · rintro k (hk | hk)
          · exact hk
          · cases hk
        · rintro k rfl
          simp
        · rintro k rfl e
          omega
        · rintro k rfl
          exact Nat.le_refl _
        · rintro k rfl
          omega)
      have hSR := Lib.hid h3.out
      clear h1 h2 h3 HN hSR
      generalize hwS : W.heap.size = S at HI ⊢
      generalize hwR : w1.heap.size = R at HI ⊢
      clear hwS hwR
      go_loopw [5] (fun x w' => ∃ (i : Nat) (L : List Slt) (K1 K2 : Nat → Prop), i ≤ m ∧ x = .int .i64 (i : Int) ∧ ScI W S R L L K1 K2 w' ∧ Bd (i : Int) L) (fun x _ => m - (intOf x).toNat)
      case atStart => exact ⟨0, [], _, _, Nat.zero_le _, rfl, HI.out, Bd.nil⟩
      case round =>
        clear HI
        obtain ⟨i, L, K1, K2, hi, rfl, hsc, hbd⟩ := hrel
        by_cases him : i < m
        · have hd1 : decide ((i : Int) < (m : Int)) = true := decide_eq_true (by omega)
          have hac := HA.out.below (hsc.be.mono (Nat.le_refl _))
          obtain ⟨b, o, rfl, hblt⟩ := hac.some (by omega)
          obtain ⟨y0, y1, y2, y3⟩ := hac.at him
          have hza := hsz.out i him
          obtain ⟨a, ha⟩ : ∃ a, a = ag l i := ⟨_, rfl⟩
          rw [← ha] at y0 y1 y2 y3 hza
          have hb2 : Below wr.heap.size wr (wr.alloc (.cells #[.int .i64 a.k, .int .i64 a.sl, .int .i64 a.sp, .string a.tx] 32)) := (Below.refl _ _).alloc (Nat.le_refl _) _
          have HS := Lib.hid (hsc.below hb2)
          have HX : Hid (XV K1 K2 wr.heap.size a (wr.alloc (.cells #[.int .i64 a.k, .int .i64 a.sl, .int .i64 a.sp, .string a.tx] 32))) := Lib.hid ⟨heap_alloc_new wr _, fun e => by have := hsc.s.lts _ e; omega, fun e => by have := hsc.r.lts _ e; omega⟩
          have HB := Lib.hid hbd
          clear hac hsc hbd ha hb2
          go_upto_block 2 with fail
          generalize wr.alloc (.cells #[.int .i64 a.k, .int .i64 a.sl, .int .i64 a.sp, .string a.tx] 32) = w3 at *
          generalize wr.heap.size = X at *
          go_cut [7, 8, 9, 10, 11, 12, 13] from 26 to 176 (fun x x8 x9 x10 x11 x12 x13 wx => x = .bool true ∧ ∃ K1' K2', ScI W S R (nextL L a) (nextL L a) K1' K2' wx ∧ XV K1' K2' X a wx)
          case first =>
            by_cases hk : a.k = 0
            · by_cases hb4 : a.tx.size ≤ 400
              · have hn := Lib.hid (show nextL L a = putL L a.tx by unfold nextL; rw [if_pos hk, if_pos hb4])
                have P1 := Lib.hid (put_any HS.out.s HB.out (by omega) a.tx hb4)
                have x3 := HX.out.c3
                go_wp2_with (first
                  | (go_at_call 10; (with_reducible refine P1.out.mono ?_); rintro r w4 ⟨rfl, hp⟩; obtain ⟨K1', I, HX2⟩ := HS.out.one HX.out hp; have P2 := Lib.hid (refPut_any I.r HB.out (by omega) a.tx hb4); have x4 := HX2.c3; replace I := Lib.hid I; replace HX2 := Lib.hid HX2; clear P1 hp)
                  | (go_at_call 11; (with_reducible refine P2.out.mono ?_); rintro r w5 ⟨rfl, hp⟩; obtain ⟨K2', I2, HX3⟩ := I.out.two HX2.out hp; replace I2 := Lib.hid I2; replace HX3 := Lib.hid HX3; clear P2 hp)
                  | (go_at_call 12; (with_reducible refine (num_any _ _).mono ?_); rintro r w6 ⟨rfl, rfl⟩))
                go_meet
                exact ⟨by simp, _, _, by rw [hn.out]; exact I2.out, HX3.out⟩
              · have hn := Lib.hid (show nextL L a = L by unfold nextL; rw [if_pos hk, if_neg hb4])
                have x3 := HX.out.c3
                have hb5 : 400 < a.tx.size ∧ a.tx.size ≤ 140737488355328 := by omega
                go_wp2_with (first
                  | (go_at_call 10; (with_reducible refine (put_long _ _ hb5.1 hb5.2 _).mono ?_); rintro r w4 ⟨rfl, rfl⟩)
                  | (go_at_call 11; (with_reducible refine (refPut_long _ _ hb5.1 hb5.2 _).mono ?_); rintro r w5 ⟨rfl, rfl⟩)
                  | (go_at_call 12; (with_reducible refine (num_any _ _).mono ?_); rintro r w6 ⟨rfl, rfl⟩))
                go_meet
                exact ⟨by simp, _, _, by rw [hn.out]; exact HS.out, HX.out⟩
            · have hk' : ¬ a.k = 0 := hk
              clear hk
              by_cases hk : a.k = 1
              · have hn := Lib.hid (show nextL L a = (if err L a.sl a.sp = 0 then cntL L a.sl.toNat 1 else L) from by unfold nextL; rw [if_neg (by omega), if_pos hk])
                have hk1 : a.k = 1 := hk
                have z1 := HX.out.c1
                have z2 := HX.out.c2
                have I := HS.out.drew
                have X1 := HX.out.drew
                have hpos := Lib.hid HS.out.s.pos
                clear HS HX
                go_wp2_with fail
                go_region_held3 (fun w' => w'.cell? ⟨X, 1, none⟩ = some (.int .i64 a.sl) ∧ w'.cell? ⟨X, 2, none⟩ = some (.int .i64 a.sp))
                  (first | exact ⟨z1, z2⟩ | exact ⟨X1.c1, X1.c2⟩)
                  (first
                    | (go_at_call 13; have I' := I; have X' := X1; clear I X1; refine (inc_any I'.s HB.out (by omega) _ _).mono ?_; rintro r w4 ⟨rfl, hp⟩; obtain ⟨K1', I, X1⟩ := I'.one X' hp; clear I' X' hp)
                    | (go_at_call 14; have I' := I; have X' := X1; clear I X1; refine (refCount_any I'.r HB.out (by omega) hpos.out _ _ 1 (by omega)).mono ?_; rintro r w4 ⟨rfl, hp⟩; obtain ⟨K2', I, X1⟩ := I'.two X' hp; clear I' X' hp)
                    | (go_at_call 12; refine (num_any _ _).mono ?_; rintro r w6 ⟨rfl, rfl⟩))
                replace I := Lib.hid I
                replace X1 := Lib.hid X1
                go_wp2_with fail
                go_meet
                exact ⟨by simp, _, _, by rw [hn.out]; exact I.out, X1.out⟩
              · have hk2 : ¬ a.k = 1 := hk
                clear hk
                by_cases hk : a.k = 2
                · have hn := Lib.hid (show nextL L a = (if err L a.sl a.sp = 0 then cntL L a.sl.toNat (-1) else L) from by unfold nextL; rw [if_neg (by omega), if_neg (by omega), if_pos hk])
                  have hk1 : a.k = 2 := hk
                  have z1 := HX.out.c1
                  have z2 := HX.out.c2
                  have I := HS.out.drew
                  have X1 := HX.out.drew
                  have hpos := Lib.hid HS.out.s.pos
                  clear HS HX
                  go_wp2_with fail
                  go_region_held3 (fun w' => w'.cell? ⟨X, 1, none⟩ = some (.int .i64 a.sl) ∧ w'.cell? ⟨X, 2, none⟩ = some (.int .i64 a.sp))
                    (first | exact ⟨z1, z2⟩ | exact ⟨X1.c1, X1.c2⟩)
                    (first
                      | (go_at_call 15; have I' := I; have X' := X1; clear I X1; refine (dec_any I'.s HB.out (by omega) _ _).mono ?_; rintro r w4 ⟨rfl, hp⟩; obtain ⟨K1', I, X1⟩ := I'.one X' hp; clear I' X' hp)
                      | (go_at_call 14; have I' := I; have X' := X1; clear I X1; refine (refCount_any I'.r HB.out (by omega) hpos.out _ _ (-1) (by omega)).mono ?_; rintro r w4 ⟨rfl, hp⟩; obtain ⟨K2', I, X1⟩ := I'.two X' hp; clear I' X' hp)
                      | (go_at_call 12; refine (num_any _ _).mono ?_; rintro r w6 ⟨rfl, rfl⟩))
                  replace I := Lib.hid I
                  replace X1 := Lib.hid X1
                  go_wp2_with fail
                  go_meet
                  exact ⟨by simp, _, _, by rw [hn.out]; exact I.out, X1.out⟩
                · have hn := Lib.hid (show nextL L a = L by unfold nextL; rw [if_neg hk', if_neg hk2, if_neg hk])
                  go_wp2_with fail
                  go_meet
                  exact ⟨rfl, _, _, by rw [hn.out]; exact HS.out, HX.out⟩
          case rest =>
            obtain ⟨rfl, K1', K2', I, HXc⟩ := hcut
            have hbd2 := nextL_bd HB.out (by omega) a
            rw [show (i : Int) + 1 = ((i + 1 : Nat) : Int) by omega] at hbd2
            clear HS HX HB
            generalize nextL L a = L' at *
            have hlen := hbd2.len
            replace hbd2 := Lib.hid hbd2
            have z1 := HXc.c1
            have z2 := HXc.c2
            have HG := Lib.hid (getS_any I.s (by omega) a.sl a.sp)
            obtain ⟨A2, c2, hrs, _, _⟩ := I.r
            have HF := Lib.hid (refFind_any hrs a.sl a.sp)
            have HSl := Lib.hid (slots_any I.s (by omega))
            replace I := Lib.hid I
            replace hrs := Lib.hid hrs
            replace HXc := Lib.hid HXc
            have hlen2 : L'.length ≤ 1000 := by omega
            clear y0 y1 y2 y3
            obtain ⟨z, hz⟩ : ∃ z, err L' a.sl a.sp = z := ⟨_, rfl⟩
            obtain ⟨t, ht⟩ : ∃ t, getL L' a.sl a.sp = t := ⟨_, rfl⟩
            rw [hz, ht] at HG
            rw [hz] at HF
            replace hz := Lib.hid hz
            replace ht := Lib.hid ht
            go_upto_region 23 with (first
              | (go_at_call 16; (with_reducible refine HG.out.mono ?_); rintro r w4 ⟨rfl, rfl⟩)
              | (go_at_call 17; (with_reducible refine HF.out.mono ?_); rintro r w4 ⟨rfl, rfl⟩)
              | (go_at_call 18; (with_reducible refine HSl.out.mono ?_); rintro r w5 ⟨A5, c5, rfl, k1, k2, k3⟩; have I5 := Lib.hid (I.out.below k2); have HR5 := Lib.hid (hrs.out.chg (Chg.below (K := fun _ => False) k2) (fun h => h) (fun _ _ h => h)); have HX5 := Lib.hid (HXc.out.keep (Chg.below (K := fun _ => False) k2) (fun h => h)); replace k1 := Lib.hid k1; replace k2 := Lib.hid k2; replace k3 := Lib.hid k3))
            have u1 := HX5.out.c1
            have u0 := HR5.out.c0
            clear HG HF HSl z1 z2
            rcases err_cases L' a.sl a.sp with ⟨h1, _⟩ | ⟨h1, _⟩ | ⟨h1, j, hj, hjl, h2, h3⟩
            · have hz4 : z = 4 := by rw [← hz.out, h1]
              have ht4 : t = ⟨#[]⟩ := by rw [← ht.out]; unfold getL; rw [h1, if_neg (by omega)]
              subst hz4 ht4
              clear h1
              have QN := Lib.hid (fun (n : Nat) => (Calls.quiet_of_same (w := w5) (n := n) ((num_any 4 _).mono fun _ _ h => ⟨h.1, h.2.symm⟩) : Calls Try.prog 12 #[.int .i64 4] (w5.drewN n) fun e w'' => e = .returned (.int .i64 4) ∧ ∃ m, w'' = w5.drewN m))
              have QB := Lib.hid (fun (n : Nat) => Calls.quiet_of_same (w := w5) (n := n) ((bytesS_any (I5.out.drewN n).s).mono fun _ _ h => ⟨h.1, h.2.symm⟩))
              have QL := Lib.hid (fun (n : Nat) => Calls.quiet_of (w := w5) (n := n) (lenS_any (I5.out.drewN n).s (by omega)))
              have RB := Lib.hid (fun (n : Nat) => Calls.quiet_of_same (w := w5) (n := n) ((refBytes_any (HR5.out.drewN n) hbd2.out (by omega)).mono fun _ _ h => ⟨h.1, h.2.symm⟩))
              have RL := Lib.hid (fun (n : Nat) => Calls.quiet_of_same (w := w5) (n := n) ((refLen_any (HR5.out.drewN n) hbd2.out (by omega)).mono fun _ _ h => ⟨h.1, h.2.symm⟩))
              have SS := Lib.hid (fun (n : Nat) => Calls.quiet_of (w := w5) (n := n) (sameSlots_any (Row3.drewN k1.out n) ((HR5.out.drewN n).row) (by omega)))
              go_quiet (first
                | (go_at_call 12; with_reducible exact QN.out _)
                | (go_at_call 19; with_reducible exact QB.out _)
                | (go_at_call 20; with_reducible exact RB.out _)
                | (go_at_call 21; with_reducible exact QL.out _)
                | (go_at_call 22; with_reducible exact RL.out _)
                | (go_at_call 23; with_reducible exact SS.out _))
              go_wp2_with (go_at_call 24; refine (overSlots_any (Row3.drewN k1.out _) (by omega)).mono ?_; rintro r w7 ⟨rfl, hov⟩; have I7 := Lib.hid ((I5.out.drewN _).keep hov (fun k hk => ⟨fun e => by have := I.out.s.lts k e; have := k3.out k hk; omega, fun e => by have := I.out.r.lts k e; have := k3.out k hk; omega, Nat.le_trans I.out.be.size (k3.out k hk)⟩)); clear hov)
              exact ⟨⟨i + 1, L', _, _, by omega, rfl, I7.out, hbd2.out⟩, by simp [intOf]; omega⟩
            · have hz4 : z = 6 := by rw [← hz.out, h1]
              have ht4 : t = ⟨#[]⟩ := by rw [← ht.out]; unfold getL; rw [h1, if_neg (by omega)]
              subst hz4 ht4
              clear h1
              have QN := Lib.hid (fun (n : Nat) => (Calls.quiet_of_same (w := w5) (n := n) ((num_any 6 _).mono fun _ _ h => ⟨h.1, h.2.symm⟩) : Calls Try.prog 12 #[.int .i64 6] (w5.drewN n) fun e w'' => e = .returned (.int .i64 6) ∧ ∃ m, w'' = w5.drewN m))
              have QB := Lib.hid (fun (n : Nat) => Calls.quiet_of_same (w := w5) (n := n) ((bytesS_any (I5.out.drewN n).s).mono fun _ _ h => ⟨h.1, h.2.symm⟩))
              have QL := Lib.hid (fun (n : Nat) => Calls.quiet_of (w := w5) (n := n) (lenS_any (I5.out.drewN n).s (by omega)))
              have RB := Lib.hid (fun (n : Nat) => Calls.quiet_of_same (w := w5) (n := n) ((refBytes_any (HR5.out.drewN n) hbd2.out (by omega)).mono fun _ _ h => ⟨h.1, h.2.symm⟩))
              have RL := Lib.hid (fun (n : Nat) => Calls.quiet_of_same (w := w5) (n := n) ((refLen_any (HR5.out.drewN n) hbd2.out (by omega)).mono fun _ _ h => ⟨h.1, h.2.symm⟩))
              have SS := Lib.hid (fun (n : Nat) => Calls.quiet_of (w := w5) (n := n) (sameSlots_any (Row3.drewN k1.out n) ((HR5.out.drewN n).row) (by omega)))
              go_quiet (first
                | (go_at_call 12; with_reducible exact QN.out _)
                | (go_at_call 19; with_reducible exact QB.out _)
                | (go_at_call 20; with_reducible exact RB.out _)
                | (go_at_call 21; with_reducible exact QL.out _)
                | (go_at_call 22; with_reducible exact RL.out _)
                | (go_at_call 23; with_reducible exact SS.out _))
              go_wp2_with (go_at_call 24; refine (overSlots_any (Row3.drewN k1.out _) (by omega)).mono ?_; rintro r w7 ⟨rfl, hov⟩; have I7 := Lib.hid ((I5.out.drewN _).keep hov (fun k hk => ⟨fun e => by have := I.out.s.lts k e; have := k3.out k hk; omega, fun e => by have := I.out.r.lts k e; have := k3.out k hk; omega, Nat.le_trans I.out.be.size (k3.out k hk)⟩)); clear hov)
              exact ⟨⟨i + 1, L', _, _, by omega, rfl, I7.out, hbd2.out⟩, by simp [intOf]; omega⟩
            · have hz4 : z = 0 := by rw [← hz.out, h1]
              have ht4 : t = (gt L' j).tx := by rw [← ht.out]; unfold getL; rw [h1, if_pos rfl, hj, show ((j : Int)).toNat = j by omega]
              subst hz4 ht4
              obtain ⟨g2, rfl, _⟩ := HR5.out.row.some (by omega)
              obtain ⟨_, _, u2⟩ := HR5.out.row.el hjl
              have hjd : (j : Int) < (L'.length : Int) := by omega
              clear h1 h2 h3
              have QN := Lib.hid (fun (n : Nat) => (Calls.quiet_of_same (w := w5) (n := n) ((num_any 0 _).mono fun _ _ h => ⟨h.1, h.2.symm⟩) : Calls Try.prog 12 #[.int .i64 0] (w5.drewN n) fun e w'' => e = .returned (.int .i64 0) ∧ ∃ m, w'' = w5.drewN m))
              have QB := Lib.hid (fun (n : Nat) => Calls.quiet_of_same (w := w5) (n := n) ((bytesS_any (I5.out.drewN n).s).mono fun _ _ h => ⟨h.1, h.2.symm⟩))
              have QL := Lib.hid (fun (n : Nat) => Calls.quiet_of (w := w5) (n := n) (lenS_any (I5.out.drewN n).s (by omega)))
              have RB := Lib.hid (fun (n : Nat) => Calls.quiet_of_same (w := w5) (n := n) ((refBytes_any (HR5.out.drewN n) hbd2.out (by omega)).mono fun _ _ h => ⟨h.1, h.2.symm⟩))
              have RL := Lib.hid (fun (n : Nat) => Calls.quiet_of_same (w := w5) (n := n) ((refLen_any (HR5.out.drewN n) hbd2.out (by omega)).mono fun _ _ h => ⟨h.1, h.2.symm⟩))
              have SS := Lib.hid (fun (n : Nat) => Calls.quiet_of (w := w5) (n := n) (sameSlots_any (Row3.drewN k1.out n) ((HR5.out.drewN n).row) (by omega)))
              go_quiet (first
                | (go_at_call 12; with_reducible exact QN.out _)
                | (go_at_call 19; with_reducible exact QB.out _)
                | (go_at_call 20; with_reducible exact RB.out _)
                | (go_at_call 21; with_reducible exact QL.out _)
                | (go_at_call 22; with_reducible exact RL.out _)
                | (go_at_call 23; with_reducible exact SS.out _))
              go_wp2_with (go_at_call 24; refine (overSlots_any (Row3.drewN k1.out _) (by omega)).mono ?_; rintro r w7 ⟨rfl, hov⟩; have I7 := Lib.hid ((I5.out.drewN _).keep hov (fun k hk => ⟨fun e => by have := I.out.s.lts k e; have := k3.out k hk; omega, fun e => by have := I.out.r.lts k e; have := k3.out k hk; omega, Nat.le_trans I.out.be.size (k3.out k hk)⟩)); clear hov)
              exact ⟨⟨i + 1, L', _, _, by omega, rfl, I7.out, hbd2.out⟩, by simp [intOf]; omega⟩
        · have hd1 : decide ((i : Int) < (m : Int)) = false := decide_eq_false (by omega)
          have hlen := hbd.len
          have I := hsc.drew
          obtain ⟨A2, c2, hrs0, _, _⟩ := hsc.r
          have u0 := hrs0.c0
          have HR := hrs0.drewN 1
          have u9 : wr.drew.cell? ⟨R, 0, none⟩ = some (.slice A2 L.length c2) := HR.c0
          clear hsc hrs0 hbd
          go_wp2_with fail
          go_region_held3 (fun w' => w'.cell? ⟨R, 0, none⟩ = some (.slice A2 L.length c2))
            (first | exact u0 | exact u9 | exact HR.c0)
            (first
              | (go_at_call 18; have I' := I; have HR' := HR; clear I HR; refine (slots_any I'.s (by omega)).mono ?_; rintro r w5 ⟨A5, c5, rfl, k1, k2, k3⟩; have I := I'.below k2; have HR := HR'.chg (Chg.below (K := fun _ => False) k2) (fun h => h) (fun _ _ h => h); clear I' HR' k2 k3)
              | (go_at_call 23; have I' := I; have HR' := HR; clear I HR; refine (sameSlots_any k1 HR'.row (by omega)).mono ?_; rintro r w6 ⟨rfl, q6, rfl⟩; have I := I'.drewN q6; have HR := HR'.drewN q6; clear I' HR' k1)
              | (go_at_call 8; have I' := I; have HR' := HR; clear I HR; refine (awake10 _).mono ?_; rintro r w6 ⟨rfl, hb6⟩; have I := I'.below hb6; have HR := HR'.chg (Chg.below (K := fun _ => False) hb6) (fun h => h) (fun _ _ h => h); clear I' HR' hb6))
          go_wp2
          go_ret
          exact ⟨rfl, I.be⟩
end Go.Proofs.Ytacanobhfebnaaa
