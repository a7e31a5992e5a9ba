/-
  THE LAW LookParts: its walk.
-/
import Derived.Test.YtejmmjedognaaaaQ42
import Derived.Test.YtejmmjedognaaaaQ41
namespace Go.Proofs.Ytejmmjedognaaaa
open Go.RowKit Go.Shelf
open St

set_option maxRecDepth 100000 in
theorem set7b {B : Nat} {a w : World} (h : Below B a w) {D : Nat} (hD : B ≤ D) (v0 v1 v2 v3 v4 v5 v6 : Value) : Below B a (((((((w.setCell ⟨D, 0, none⟩ v0).setCell ⟨D, 1, none⟩ v1).setCell ⟨D, 2, none⟩ v2).setCell ⟨D, 3, none⟩ v3).setCell ⟨D, 4, none⟩ v4).setCell ⟨D, 5, none⟩ v5).setCell ⟨D, 6, none⟩ v6) :=
  ((((((h.setCell (p := ⟨D, 0, none⟩) hD v0).setCell (p := ⟨D, 1, none⟩) hD v1).setCell (p := ⟨D, 2, none⟩) hD v2).setCell (p := ⟨D, 3, none⟩) hD v3).setCell (p := ⟨D, 4, none⟩) hD v4).setCell (p := ⟨D, 5, none⟩) hD v5).setCell (p := ⟨D, 6, none⟩) hD v6
set_option maxRecDepth 100000 in
theorem byte_or {s : ByteArray} {l : List Nat} (hl : l = Wr.txt s) (hs : Wr.Small l) {i k v : Nat} (hk : k < 8) (hi : 8 * i + k < s.size) (hv : wdP ((l.drop (8 * i)).take k) = v) :
    bits .or .u64 (v : Int) (IntKind.u64.wrap (IntKind.u64.wrap ((s[8 * i + k]'hi).toNat : Int) * 2 ^ (8 * k))) = ((wdP ((l.drop (8 * i)).take (k + 1)) : Nat) : Int) := by
  have hln : l.length = s.size := by rw [hl]; exact Wr.txt_len s
  have e : (s[8 * i + k]'hi).toNat = l.getD (8 * i + k) 0 := by
    subst hl
    rw [List.getD_eq_getElem?_getD, List.getElem?_eq_getElem (by omega)]
    simp [Wr.txt]
    rfl
  have hb : l.getD (8 * i + k) 0 < 256 := by rw [← e]; exact (s[8 * i + k]'hi).toNat_lt
  have h4 : (2 : Nat) ^ (8 * k) ≤ 2 ^ 56 := Nat.pow_le_pow_right (by omega) (by omega)
  have h5 : l.getD (8 * i + k) 0 * 2 ^ (8 * k) ≤ 255 * 2 ^ 56 := Nat.mul_le_mul (by omega) h4
  have e2 : IntKind.u64.wrap (IntKind.u64.wrap ((l.getD (8 * i + k) 0 : Nat) : Int) * 2 ^ (8 * k)) = ((l.getD (8 * i + k) 0 * 2 ^ (8 * k) : Nat) : Int) := by
    rw [IntKind.wrap_u64, IntKind.wrap_u64, show ((l.getD (8 * i + k) 0 : Nat) : Int) % 18446744073709551616 = ((l.getD (8 * i + k) 0 : Nat) : Int) by omega, show ((l.getD (8 * i + k) 0 : Nat) : Int) * 2 ^ (8 * k) = ((l.getD (8 * i + k) 0 * 2 ^ (8 * k) : Nat) : Int) by norm_cast]
    omega
  rw [e, e2, ← hv]
  exact wrd_or hs i k hk (by omega)
set_option maxRecDepth 100000 in
set_option maxRecDepth 100000 in
set_option maxHeartbeats 8000000 in
theorem lookParts_walk (w : World) (s : ByteArray) (hsz : s.size ≤ maxLen) (x y : Int) :
    Calls Try.prog 3 #[.string s, .int .i64 x, .int .i64 y] w fun e w' => e = .returned (.bool true) ∧ Below w.heap.size w w' := by
  have hmx : s.size ≤ 9223372036854775807 := hsz
  by_cases hL : s.size ≤ 64
  · have hd : decide (64 < (s.size : Int)) = false := decide_eq_false (by omega)
    obtain ⟨f, hf, hlf⟩ := low_int x 70 (by omega) (by omega)
    obtain ⟨m, hm, hlm⟩ := low_int y 70 (by omega) (by omega)
    obtain ⟨l, hl⟩ : ∃ l, l = Wr.txt s := ⟨_, rfl⟩
    have hln : l.length = s.size := by rw [hl]; exact Wr.txt_len s
    replace hln := Lib.hid hln
    have hls := Lib.hid (show Wr.Small l by rw [hl]; exact Wr.txt_small s)
    have hst := Lib.hid (show Wr.str l = s by rw [hl]; exact Wr.str_txt s)
    have hn8 : nw l ≤ 8 := by unfold nw; have := hln.out; omega
    have hnw : Hid (nw l = (s.size + 7) / 8) := Lib.hid (by unfold nw; rw [hln.out])
    have HF := Lib.hid hlf
    have HM := Lib.hid hlm
    have H1 : Hid (∀ W, Calls Try.prog 6 #[.int .i64 3, .int .i64 ((nw l : Nat) + 1 : Int)] W fun e W' => e = .returned (.tuple #[.int .u64 (hdZ 3 (nw l + 1)), .bool true]) ∧ W = W') := Lib.hid (fun W => by
      have q := refHead_any 3 ((nw l : Nat) + 1 : Int) W
      have e : hdB 3 ((nw l : Nat) + 1 : Int) = true := by unfold hdB; simp; omega
      rw [e, if_pos rfl] at q
      exact q)
    have H2 : Hid (∀ W, Calls Try.prog 6 #[.int .i64 5, .int .i64 3] W fun e W' => e = .returned (.tuple #[.int .u64 (hdZ 5 3), .bool true]) ∧ W = W') := Lib.hid (fun W => by
      have q := refHead_any 5 3 W
      rw [show hdB 5 3 = true by decide, if_pos rfl] at q
      exact q)
    clear hlf hlm
    replace hl := Lib.hid hl
    go_enter Try.func3, Try.ntmps3
    go_upto_region 4 with (first
      | (go_at_call 5; (with_reducible refine (HF.out _).mono ?_); rintro e w9 ⟨rfl, rfl⟩)
      | (go_at_call 5; (with_reducible refine (HM.out _).mono ?_); rintro e w9 ⟨rfl, rfl⟩))
    go_upto_region 5 with fail
    rw [show ((s.size : Int) + 7) / 8 = ((nw l : Nat) : Int) by rw [hnw.out]; omega]
    generalize hnn : nw l = n at *
    replace hnn := Lib.hid hnn
    go_upto_region 8 with (first
      | (go_at_call 6; (with_reducible refine (H1.out _).mono ?_); rintro e w9 ⟨rfl, rfl⟩)
      | (go_at_call 6; (with_reducible refine (H2.out _).mono ?_); rintro e w9 ⟨rfl, rfl⟩))
    obtain ⟨h1, hh1⟩ : ∃ h1, h1 = hdZ 3 ((n : Int) + 1) := ⟨_, rfl⟩
    obtain ⟨h2, hh2⟩ : ∃ h2, h2 = hdZ 5 3 := ⟨_, rfl⟩
    rw [← hh1, ← hh2]
    have hw1 : Wd h1 := by rw [hh1]; unfold Wd hdZ; omega
    have hw2 : Wd h2 := by rw [hh2]; unfold Wd hdZ; omega
    replace hh1 := Lib.hid hh1
    replace hh2 := Lib.hid hh2
    have HW2 := Lib.hid hw2
    have P0 := pdi_new (W := w)
    generalize w.alloc (.cells #[.int .i64 9, .slice none 0 0, .int .i64 0, .slice none 0 0, .int .i64 0, .int .i64 0, .slice none 0 0, .slice none 0 0, .slice none 0 0] 33) = W1 at *
    generalize hD : w.heap.size = D at *
    replace hD := Lib.hid hD
    obtain ⟨A1, c1, W2, t1, e1, g1, P1⟩ := pd_push (n := 0) (k := 2) (ys := [h1, (s.size : Int)]) (cs := #[.int .u64 h1, .int .u64 (s.size : Int)]) P0 rfl (by omega) rfl (by omega) (fun j hj => match j, hj with | 0, _ => rfl | 1, _ => rfl) (fun y hy => by
      rcases List.mem_cons.1 hy with rfl | hy
      · exact hw1
      · rw [List.mem_singleton.1 hy]; unfold Wd; omega)
    have q1 : W1.cell? ⟨D, 1, none⟩ = some (.slice none 0 0) := P0.c1
    rw [Nat.zero_add] at t1 P1
    rw [List.nil_append] at P1
    have T1 := Lib.hid t1
    replace P1 := Lib.hid P1
    clear t1 P0 hw1 hw2
    go_upto_region 9 with (at_builtin; refine wpApp rfl (.tmp 47) (.tmp 52) _ rfl _ _ _ rfl rfl T1.out ?_)
    clear T1 q1 e1 g1
    generalize W2.setCell ⟨D, 1, none⟩ (.slice A1 2 c1) = W3 at *
    have hnl := Lib.hid (show (lay l).length = n by rw [lay_len]; exact hnn.out)
    go_upto_region 10 with fail
    go_loopw [13] (fun v13 wx => ∃ i : Nat, i ≤ n ∧ v13 = .int .i64 (i : Int) ∧ Hid (∃ A c, PdI w D A c ([h1, (s.size : Int)] ++ (lay l).take i) wx)) (fun v13 _ => n - (intOf v13).toNat)
    case atStart => exact ⟨0, Nat.zero_le _, rfl, Lib.hid ⟨A1, c1, by simpa using P1.out⟩⟩
    case round =>
      clear P1
      obtain ⟨i, hi, rfl, HP⟩ := hrel
      by_cases hin : i < n
      · have hd1 : decide ((i : Int) < (n : Int)) = true := decide_eq_true (by omega)
        go_upto_region 14 with fail
        go_loopw [14, 15] (fun v14 v15 wx => ∃ (k v : Nat), k ≤ 8 ∧ v15 = .int .i64 (k : Int) ∧ v14 = .int .u64 (v : Int) ∧ Hid (wdP ((l.drop (8 * i)).take k) = v) ∧ Hid (wx = wr)) (fun _ v15 _ => 8 - (intOf v15).toNat)
        case atStart => exact ⟨0, 0, Nat.zero_le _, rfl, rfl, Lib.hid (by simp [wdP]), Lib.hid rfl⟩
        case round =>
          obtain ⟨k, v, hk, rfl, rfl, HV, HR⟩ := hrel
          by_cases hc : k < 8 ∧ 8 * i + k < s.size
          · have hd2 : decide ((k : Int) < 8) = true := decide_eq_true (by omega)
            have hd3 : decide (8 * (i : Int) + (k : Int) < (s.size : Int)) = true := decide_eq_true (by omega)
            have HB := Lib.hid (byte_or hl.out hls.out hc.1 hc.2 HV.out)
            go_wp2_with fail
            exact ⟨⟨k + 1, _, by omega, rfl, congrArg (Value.int .u64) HB.out, Lib.hid rfl, HR⟩, by simp [intOf]; omega⟩
          · have hv : Hid ((v : Int) = wrd l i) := Lib.hid (by
              unfold wrd
              rw [← HV.out]
              congr 2
              by_cases h8 : k = 8
              · rw [h8]
              · rw [List.take_of_length_le (by rw [List.length_drop, hln.out]; omega), List.take_of_length_le (by rw [List.length_drop, hln.out]; omega)])
            have HV2 : Wd (v : Int) := by rw [hv.out]; exact wrd_wd hls.out i
            obtain ⟨A, c, P⟩ := HP.out
            rw [← HR.out] at P
            have hlen : ([h1, (s.size : Int)] ++ (lay l).take i).length = 2 + i := by
              rw [List.length_append, List.length_take, hnl.out]; simp; omega
            obtain ⟨A2, c2, W5, t2, e2, g2, P2⟩ := pd_push (n := 2 + i) (k := 1) (ys := [(v : Int)]) (cs := #[.int .u64 (v : Int)]) P rfl (by omega) hlen.symm (by omega) (fun j hj => match j, hj with | 0, _ => rfl) (fun y hy => by rw [List.mem_singleton.1 hy]; exact HV2)
            have q1 := P.c1
            rw [hlen] at q1
            have T2 := Lib.hid t2
            have P3 : Hid (PdI w D A2 c2 ([h1, (s.size : Int)] ++ (lay l).take (i + 1)) (W5.setCell ⟨D, 1, none⟩ (.slice A2 (2 + i + 1) c2))) := Lib.hid (by
              rw [take_gd (by rw [hnl.out]; exact hin), lay_get (by have := hnn.out; unfold nw at this; omega), ← hv.out, ← List.append_assoc]
              exact P2)
            clear t2 P P2 HV2 hlen HP
            by_cases h8 : k < 8
            · have hd2 : decide ((k : Int) < 8) = true := decide_eq_true (by omega)
              have hd3 : decide (8 * (i : Int) + (k : Int) < (s.size : Int)) = false := decide_eq_false (by omega)
              go_wp2_with (at_builtin; refine wpApp rfl (.tmp 88) (.tmp 90) _ rfl _ _ _ rfl rfl T2.out ?_)
              exact ⟨⟨i + 1, by omega, rfl, Lib.hid ⟨A2, c2, P3.out⟩⟩, by simp [intOf]; omega⟩
            · have hd2 : decide ((k : Int) < 8) = false := decide_eq_false (by omega)
              go_wp2_with (at_builtin; refine wpApp rfl (.tmp 88) (.tmp 90) _ rfl _ _ _ rfl rfl T2.out ?_)
              exact ⟨⟨i + 1, by omega, rfl, Lib.hid ⟨A2, c2, P3.out⟩⟩, by simp [intOf]; omega⟩
      · have e : i = n := by omega
        have hd1 : decide ((i : Int) < (n : Int)) = false := decide_eq_false (by omega)
        obtain ⟨A, c, P⟩ := HP.out
        rw [e, List.take_of_length_le (by rw [hnl.out]; exact Nat.le_refl _)] at P
        subst e
        clear HP hin hi
        have hlen : ([h1, (s.size : Int)] ++ lay l).length = 2 + i := by rw [List.length_append, hnl.out]; rfl
        obtain ⟨A2, c2, W5, t2, e2, g2, P2⟩ := pd_push (n := 2 + i) (k := 4) (ys := [h2, 76, (f : Int), (m : Int)]) (cs := #[.int .u64 h2, .int .u64 76, .int .u64 (f : Int), .int .u64 (m : Int)]) P rfl (by omega) hlen.symm (by omega) (fun j hj => match j, hj with | 0, _ => rfl | 1, _ => rfl | 2, _ => rfl | 3, _ => rfl) (fun y hy => by
          rcases List.mem_cons.1 hy with rfl | hy
          · exact HW2.out
          · rcases List.mem_cons.1 hy with rfl | hy
            · unfold Wd; omega
            · rcases List.mem_cons.1 hy with rfl | hy
              · unfold Wd; omega
              · rw [List.mem_singleton.1 hy]; unfold Wd; omega)
        have q1 := P.c1
        rw [hlen] at q1
        have T2 := Lib.hid t2
        have hpw : ([h1, (s.size : Int)] ++ lay l) ++ [h2, 76, (f : Int), (m : Int)] = pws l f m := by
          unfold pws
          rw [hh1.out, hh2.out, hnn.out, ← hln.out]
          rfl
        rw [hpw] at P2
        replace P2 := Lib.hid P2
        clear t2 P hlen hpw
        go_upto_region 19 with (at_builtin; refine wpApp rfl (.tmp 96) (.tmp 102) _ rfl _ _ _ rfl rfl T2.out ?_)
        clear q1 e2 g2 T2
        generalize W5.setCell ⟨D, 1, none⟩ (.slice A2 (2 + i + 4) c2) = W7 at *
        have hpl : Hid ((pws l f m).length = 2 + i + 4) := Lib.hid (by rw [pws_len, hnn.out]; omega)
        have b7 := P2.out.blk
        rw [hpl.out] at b7
        have q1 : W7.cell? ⟨D, 1, none⟩ = some (.slice A2 (2 + i + 4) c2) := (cell_of_row W7 D 1 _ _ (0, 0) b7).trans rfl
        have q4 : W7.cell? ⟨D, 4, none⟩ = some (.int .i64 0) := (cell_of_row W7 D 4 _ _ (0, 0) b7).trans rfl
        have f4 : W7.frozen? ⟨D, 4, none⟩ = false := frozen_of_row W7 D 4 _ _ b7
        replace b7 := Lib.hid b7
        go_upto_region 21 with fail
        have hor : bits .or .u64 ((9 + (i : Int) + 2) * 8) 4 = pp l := by
          rw [or_tag (by omega) (by omega) (by omega) (by omega)]
          unfold pp
          rw [hnn.out]
        rw [hor]
        clear hor
        have hpp : Wd (pp l) := by unfold pp Wd; rw [hnn.out]; omega
        have b8 : (W7.setCell ⟨D, 4, none⟩ (.int .i64 (2 + (i : Int) + 4))).heap[D]? = some (.cells #[.int .i64 9, .slice A2 (2 + i + 4) c2, .int .i64 0, .slice none 0 0, .int .i64 (2 + (i : Int) + 4), .int .i64 0, .slice none 0 0, .slice none 0 0, .slice none 0 0] 33 (0, 0)) := by
          rw [heap_setCell_same W7 D 4 _ _ _ b7.out]; simp
        have be8 := P2.out.be.setCell (p := ⟨D, 4, none⟩) (Nat.le_refl _) (.int .i64 (2 + (i : Int) + 4))
        have k8 := (Below.refl D W7).setCell (p := ⟨D, 4, none⟩) (Nat.le_refl _) (.int .i64 (2 + (i : Int) + 4))
        have z8 : Zs .u64 (W7.setCell ⟨D, 4, none⟩ (.int .i64 (2 + (i : Int) + 4))) A2 (2 + i + 4) c2 (pws l f m) := by
          have := P2.out.zs'.ku (KU.set q4 (fun x e => by cases e) (.int .i64 (2 + (i : Int) + 4))) k8.size
          rw [hpl.out] at this
          exact this
        clear q1 q4 f4 b7 P2 k8
        generalize W7.setCell ⟨D, 4, none⟩ (.int .i64 (2 + (i : Int) + 4)) = W8 at *
        have q7 : W8.cell? ⟨D, 7, none⟩ = some (.slice none 0 0) := (cell_of_row W8 D 7 _ _ (0, 0) b8).trans rfl
        have f7 : W8.frozen? ⟨D, 7, none⟩ = false := frozen_of_row W8 D 7 _ _ b8
        have q7' : (W8.alloc (.cells #[.int .u64 76, .int .u64 (pp l)] 24)).cell? ⟨D, 7, none⟩ = some (.slice none 0 0) := (cell_of_row _ D 7 _ _ (0, 0) ((((Below.refl W8.heap.size W8).alloc (Nat.le_refl _) _).block D (Array.getElem?_eq_some_iff.1 b8).1).trans b8)).trans rfl
        have f7' : (W8.alloc (.cells #[.int .u64 76, .int .u64 (pp l)] 24)).frozen? ⟨D, 7, none⟩ = false := frozen_of_row _ D 7 _ _ ((((Below.refl W8.heap.size W8).alloc (Nat.le_refl _) _).block D (Array.getElem?_eq_some_iff.1 b8).1).trans b8)
        go_upto_region 22 with fail
        obtain ⟨RB, hRB⟩ : ∃ RB, RB = W8.heap.size := ⟨_, rfl⟩
        rw [← hRB]
        have hDR := (Array.getElem?_eq_some_iff.1 b8).1
        have a9 := (Below.refl W8.heap.size W8).alloc (Nat.le_refl _) (.cells #[.int .u64 76, .int .u64 (pp l)] 24)
        have rr8 : (W8.alloc (.cells #[.int .u64 76, .int .u64 (pp l)] 24)).heap[RB]? = some (.cells #[.int .u64 76, .int .u64 (pp l)] 24 (0, 0)) := by
          rw [hRB]; exact heap_alloc_new W8 _
        have b8' := (a9.block D hDR).trans b8
        have z8' := z8.below a9
        have be8' := be8.trans (a9.mono (Nat.le_of_lt hDR))
        clear a9 q7 f7 f7' b8 z8 be8
        generalize W8.alloc (.cells #[.int .u64 76, .int .u64 (pp l)] 24) = S8 at *
        have b9 : (S8.setCell ⟨D, 7, none⟩ (.slice (some ⟨RB, 0, none⟩) 2 2)).heap[D]? = some (.cells #[.int .i64 9, .slice A2 (2 + i + 4) c2, .int .i64 0, .slice none 0 0, .int .i64 (2 + (i : Int) + 4), .int .i64 0, .slice none 0 0, .slice (some ⟨RB, 0, none⟩) 2 2, .slice none 0 0] 33 (0, 0)) := by
          rw [heap_setCell_same S8 D 7 _ _ _ b8']; simp
        have kS := (Below.refl D S8).setCell (p := ⟨D, 7, none⟩) (Nat.le_refl _) (.slice (some ⟨RB, 0, none⟩) 2 2)
        have z9 := z8'.ku (KU.set q7' (fun x e => by cases e) (.slice (some ⟨RB, 0, none⟩) 2 2)) kS.size
        have be9 := be8'.setCell (p := ⟨D, 7, none⟩) (Nat.le_refl _) (.slice (some ⟨RB, 0, none⟩) 2 2)
        have rr9 : (S8.setCell ⟨D, 7, none⟩ (.slice (some ⟨RB, 0, none⟩) 2 2)).heap[RB]? = some (.cells #[.int .u64 76, .int .u64 (pp l)] 24 (0, 0)) :=
          (((Chg.refl (fun k => k = D) S8).setCell (p := ⟨D, 7, none⟩) (.inl rfl) (.slice (some ⟨RB, 0, none⟩) 2 2)).block RB (Array.getElem?_eq_some_iff.1 rr8).1 (fun e => by omega)).trans rr8
        clear kS q7' b8' z8' be8' rr8
        generalize S8.setCell ⟨D, 7, none⟩ (.slice (some ⟨RB, 0, none⟩) 2 2) = W9 at *
        have zr9 : Zs .u64 W9 (some ⟨RB, 0, none⟩) 2 2 [76, pp l] := zs_row (n := 2) rr9 (fun j hj => match j, hj with | 0, _ => rfl | 1, _ => rfl) rfl (by decide) (fun y hy => by
          rcases List.mem_cons.1 hy with rfl | hy
          · decide
          · rw [List.mem_singleton.1 hy]; exact wf_u64' hpp)
        have hdv : DV W9 (pRec A2 (2 + i + 4) c2 (2 + (i : Int) + 4) RB) (pdp l f m) :=
          ⟨⟨rfl, (show (Lit.int .i64 9).wf = true by decide), z9⟩, ⟨rfl, (show (Lit.int .i64 0).wf = true by decide), Zs.nil _ _⟩, (by show (2 + (i : Int) + 4) = nw l + 6; rw [hnn.out]; omega), rfl, WalkArith.wf_i64 (by show _ ∧ _; simp only [pdp]; rw [hnn.out]; omega), (show (Lit.int .i64 0).wf = true by decide), FVs.nil W9, zr9, Zs.nil _ _⟩
        have hl64 : l.length ≤ 64 := by rw [hln.out]; exact hL
        have hf' : (0 : Int) ≤ f ∧ (f : Int) < 70 := by omega
        have hm' : (0 : Int) ≤ m ∧ (m : Int) < 70 := by omega
        have HP9 : Hid (∀ w', Below W9.heap.size W9 w' → (w'.cell? ⟨D, 0, none⟩ = some (.int .i64 9) ∧ w'.cell? ⟨D, 1, none⟩ = some (.slice A2 (2 + i + 4) c2) ∧ w'.cell? ⟨D, 2, none⟩ = some (.int .i64 0) ∧ w'.cell? ⟨D, 3, none⟩ = some (.slice none 0 0) ∧ w'.cell? ⟨D, 4, none⟩ = some (.int .i64 (2 + (i : Int) + 4)) ∧ w'.cell? ⟨D, 5, none⟩ = some (.int .i64 0) ∧ w'.cell? ⟨D, 6, none⟩ = some (.slice none 0 0) ∧ w'.cell? ⟨D, 7, none⟩ = some (.slice (some ⟨RB, 0, none⟩) 2 2) ∧ w'.cell? ⟨D, 8, none⟩ = some (.slice none 0 0)) ∧ w'.cell? ⟨RB, 0, none⟩ = some (.int .u64 76)) := Lib.hid (fun w' hb => by
          have m0 := (hb.block D (Array.getElem?_eq_some_iff.1 b9).1).trans b9
          have m1 := (hb.block RB (Array.getElem?_eq_some_iff.1 rr9).1).trans rr9
          exact ⟨⟨(cell_of_row w' D 0 _ _ (0, 0) m0).trans rfl, (cell_of_row w' D 1 _ _ (0, 0) m0).trans rfl, (cell_of_row w' D 2 _ _ (0, 0) m0).trans rfl, (cell_of_row w' D 3 _ _ (0, 0) m0).trans rfl, (cell_of_row w' D 4 _ _ (0, 0) m0).trans rfl, (cell_of_row w' D 5 _ _ (0, 0) m0).trans rfl, (cell_of_row w' D 6 _ _ (0, 0) m0).trans rfl, (cell_of_row w' D 7 _ _ (0, 0) m0).trans rfl, (cell_of_row w' D 8 _ _ (0, 0) m0).trans rfl⟩, (cell_of_row w' RB 0 _ _ (0, 0) m1).trans rfl⟩)
        have C1 := Lib.hid (fun w' (hb : Below W9.heap.size W9 w') => p_read (hdv.below hb) hl64 hls.out)
        rw [hst.out] at C1
        have HDV := Lib.hid (fun w' (hb : Below W9.heap.size W9 w') => hdv.below hb)
        have BE9 := Lib.hid be9
        have hDW := Lib.hid (Array.getElem?_eq_some_iff.1 b9).1
        obtain ⟨⟨q0, q1, q2, q3, q4, q5, q6, q7, q8⟩, r0⟩ := HP9.out W9 (Below.refl _ _)
        clear rr9 b9 z9 be9 zr9 hdv hDR hpp hRB
        have hk0 : Hid (Below W9.heap.size W9 W9) := Lib.hid (Below.refl _ _)
        have hkd : Hid (Below W9.heap.size W9 W9.drew) := Lib.hid (Below.refl _ _).drew
        have hka : Hid (Below W9.heap.size W9 (W9.alloc (.cells #[.int .i64 0, .int .i64 0, .bool false, .slice none 0 0, .int .u64 0, .string ⟨#[]⟩, .slice none 0 0] 40)).drew) := Lib.hid ((Below.refl _ _).alloc (Nat.le_refl _) _).drew
        go_region_held3 (fun w' => (w'.cell? ⟨D, 0, none⟩ = some (.int .i64 9) ∧ w'.cell? ⟨D, 1, none⟩ = some (.slice A2 (2 + i + 4) c2) ∧ w'.cell? ⟨D, 2, none⟩ = some (.int .i64 0) ∧ w'.cell? ⟨D, 3, none⟩ = some (.slice none 0 0) ∧ w'.cell? ⟨D, 4, none⟩ = some (.int .i64 (2 + (i : Int) + 4)) ∧ w'.cell? ⟨D, 5, none⟩ = some (.int .i64 0) ∧ w'.cell? ⟨D, 6, none⟩ = some (.slice none 0 0) ∧ w'.cell? ⟨D, 7, none⟩ = some (.slice (some ⟨RB, 0, none⟩) 2 2) ∧ w'.cell? ⟨D, 8, none⟩ = some (.slice none 0 0)) ∧ w'.cell? ⟨RB, 0, none⟩ = some (.int .u64 76))
          (first | with_reducible exact HP9.out _ hkd.out | with_reducible exact HP9.out _ hk0.out | with_reducible exact HP9.out _ h2b.out | with_reducible exact HP9.out _ hka.out | with_reducible exact HP9.out _ (h2b.out.alloc h2b.out.size _) | with_reducible exact HP9.out _ (set7b h2b.out (Nat.le_refl _) _ _ _ _ _ _ _))
          (first
            | (go_at_call 7; have Q := C1.out _ hkd.out; (with_reducible refine Q.mono ?_); clear Q; rintro e w2 ⟨⟨tk, tn, tg, tA, tln, tlc, tu, ts, tB, tm, tdd, rfl, htv⟩, hb2⟩; have h2b := Lib.hid (hkd.out.trans (hb2.mono hkd.out.size)); replace htv := Lib.hid htv; clear hb2)
            | (go_at_call 7; have Q := C1.out _ hka.out; (with_reducible refine Q.mono ?_); clear Q; rintro e w2 ⟨⟨tk, tn, tg, tA, tln, tlc, tu, ts, tB, tm, tdd, rfl, htv⟩, hb2⟩; have ht : w2.heap[W9.heap.size]? = some (.cells #[.int .i64 0, .int .i64 0, .bool false, .slice none 0 0, .int .u64 0, .string ⟨#[]⟩, .slice none 0 0] 40 (0, 0)) := (hb2.block W9.heap.size (by simp)).trans (heap_alloc_new W9 _); have t0 : w2.cell? ⟨W9.heap.size, 0, none⟩ = some (.int .i64 0) := (cell_of_row w2 W9.heap.size 0 _ _ (0, 0) ht).trans rfl; have f0 : w2.frozen? ⟨W9.heap.size, 0, none⟩ = false := frozen_of_row w2 W9.heap.size 0 _ _ ht; have t1 : w2.cell? ⟨W9.heap.size, 1, none⟩ = some (.int .i64 0) := (cell_of_row w2 W9.heap.size 1 _ _ (0, 0) ht).trans rfl; have f1 : w2.frozen? ⟨W9.heap.size, 1, none⟩ = false := frozen_of_row w2 W9.heap.size 1 _ _ ht; have t2 : w2.cell? ⟨W9.heap.size, 2, none⟩ = some (.bool false) := (cell_of_row w2 W9.heap.size 2 _ _ (0, 0) ht).trans rfl; have f2 : w2.frozen? ⟨W9.heap.size, 2, none⟩ = false := frozen_of_row w2 W9.heap.size 2 _ _ ht; have t3 : w2.cell? ⟨W9.heap.size, 3, none⟩ = some (.slice none 0 0) := (cell_of_row w2 W9.heap.size 3 _ _ (0, 0) ht).trans rfl; have f3 : w2.frozen? ⟨W9.heap.size, 3, none⟩ = false := frozen_of_row w2 W9.heap.size 3 _ _ ht; have t4 : w2.cell? ⟨W9.heap.size, 4, none⟩ = some (.int .u64 0) := (cell_of_row w2 W9.heap.size 4 _ _ (0, 0) ht).trans rfl; have f4 : w2.frozen? ⟨W9.heap.size, 4, none⟩ = false := frozen_of_row w2 W9.heap.size 4 _ _ ht; have t5 : w2.cell? ⟨W9.heap.size, 5, none⟩ = some (.string ⟨#[]⟩) := (cell_of_row w2 W9.heap.size 5 _ _ (0, 0) ht).trans rfl; have f5 : w2.frozen? ⟨W9.heap.size, 5, none⟩ = false := frozen_of_row w2 W9.heap.size 5 _ _ ht; have t6 : w2.cell? ⟨W9.heap.size, 6, none⟩ = some (.slice none 0 0) := (cell_of_row w2 W9.heap.size 6 _ _ (0, 0) ht).trans rfl; have f6 : w2.frozen? ⟨W9.heap.size, 6, none⟩ = false := frozen_of_row w2 W9.heap.size 6 _ _ ht; replace ht := Lib.hid ht; have h2b := Lib.hid (hka.out.trans (hb2.mono hka.out.size)); replace htv := Lib.hid htv; clear hb2))
-- REST
        · have hT : (w2.alloc (.cells #[.int .i64 tk, .int .i64 tn, .bool tg, .slice tA tln tlc, .int .u64 tu, .string ts, .slice tB tm tdd] 40)).heap[w2.heap.size]? = some (.cells #[.int .i64 tk, .int .i64 tn, .bool tg, .slice tA tln tlc, .int .u64 tu, .string ts, .slice tB tm tdd] 40 (0, 0)) := heap_alloc_new w2 _
          have h3 := Lib.hid (h2b.out.alloc h2b.out.size (.cells #[.int .i64 tk, .int .i64 tn, .bool tg, .slice tA tln tlc, .int .u64 tu, .string ts, .slice tB tm tdd] 40))
          have hS3 := Lib.hid h3.out.size
          generalize w2.alloc (.cells #[.int .i64 tk, .int .i64 tn, .bool tg, .slice tA tln tlc, .int .u64 tu, .string ts, .slice tB tm tdd] 40) = X at *
          generalize w2.heap.size = G at *
          have HPX : Hid (∀ w', Below X.heap.size X w' → (w'.cell? ⟨D, 0, none⟩ = some (.int .i64 9) ∧ w'.cell? ⟨D, 1, none⟩ = some (.slice A2 (2 + i + 4) c2) ∧ w'.cell? ⟨D, 2, none⟩ = some (.int .i64 0) ∧ w'.cell? ⟨D, 3, none⟩ = some (.slice none 0 0) ∧ w'.cell? ⟨D, 4, none⟩ = some (.int .i64 (2 + (i : Int) + 4)) ∧ w'.cell? ⟨D, 5, none⟩ = some (.int .i64 0) ∧ w'.cell? ⟨D, 6, none⟩ = some (.slice none 0 0) ∧ w'.cell? ⟨D, 7, none⟩ = some (.slice (some ⟨RB, 0, none⟩) 2 2) ∧ w'.cell? ⟨D, 8, none⟩ = some (.slice none 0 0)) ∧ (w'.cell? ⟨G, 0, none⟩ = some (.int .i64 tk) ∧ w'.cell? ⟨G, 1, none⟩ = some (.int .i64 tn) ∧ w'.cell? ⟨G, 2, none⟩ = some (.bool tg) ∧ w'.cell? ⟨G, 3, none⟩ = some (.slice tA tln tlc) ∧ w'.cell? ⟨G, 4, none⟩ = some (.int .u64 tu) ∧ w'.cell? ⟨G, 5, none⟩ = some (.string ts) ∧ w'.cell? ⟨G, 6, none⟩ = some (.slice tB tm tdd))) := Lib.hid (fun w' hb => by
            have m1 := (hb.block G (Array.getElem?_eq_some_iff.1 hT).1).trans hT
            exact ⟨(HP9.out w' (h3.out.trans (hb.mono hS3.out))).1, ⟨(cell_of_row w' G 0 _ _ (0, 0) m1).trans rfl, (cell_of_row w' G 1 _ _ (0, 0) m1).trans rfl, (cell_of_row w' G 2 _ _ (0, 0) m1).trans rfl, (cell_of_row w' G 3 _ _ (0, 0) m1).trans rfl, (cell_of_row w' G 4 _ _ (0, 0) m1).trans rfl, (cell_of_row w' G 5 _ _ (0, 0) m1).trans rfl, (cell_of_row w' G 6 _ _ (0, 0) m1).trans rfl⟩⟩)
          have CW := Lib.hid (fun w' (hb : Below X.heap.size X w') => p_whyc (HDV.out w' (h3.out.trans (hb.mono hS3.out))) hl64 hls.out hf' hm')
          obtain ⟨⟨q0, q1, q2, q3, q4, q5, q6, q7, q8⟩, ⟨t0, t1, t2, t3, t4, t5, t6⟩⟩ := HPX.out X (Below.refl _ _)
          have hxx : Hid (Below w.heap.size w X) := Lib.hid (by rw [hD.out]; exact BE9.out.trans (h3.out.mono (Nat.le_of_lt hDW.out)))
          clear hT
          by_cases hfm : f + m ≤ s.size
          · have C2 := Lib.hid (fun w' (hb : Below X.heap.size X w') => p_readp (HDV.out w' (h3.out.trans (hb.mono hS3.out))) hl64 hls.out hf' hm' (by rw [hln.out]; omega))
            have CL := Lib.hid (fun w' (hb : Below X.heap.size X w') => p_livec (HDV.out w' (h3.out.trans (hb.mono hS3.out))) hl64 hls.out hf' hm' (by rw [hln.out]; omega))
            rw [hst.out] at C2
            simp only [Int.toNat_natCast] at C2
            rw [show f + m = ((f : Int) + (m : Int)).toNat by omega] at C2
            rw [hnn.out] at CL
            rw [if_pos (show (f : Int) + m ≤ l.length by rw [hln.out]; omega)] at CW
            have hd5 : decide ((s.size : Int) < (f : Int) + (m : Int)) = false := decide_eq_false (by omega)
            go_upto_region 24 with (go_at_call 7; (with_reducible refine (C2.out _ (Below.refl _ _)).mono ?_); rintro e w3 ⟨⟨uk, un, ug, uA, uln, ulc, uu, us, uB, um, udd, rfl, huv⟩, hb3⟩; replace huv := Lib.hid huv; replace hb3 := Lib.hid hb3)
            have aU := (Below.refl w3.heap.size w3).alloc (Nat.le_refl _) (.cells #[.int .i64 uk, .int .i64 un, .bool ug, .slice uA uln ulc, .int .u64 uu, .string us, .slice uB um udd] 40)
            have hU : (w3.alloc (.cells #[.int .i64 uk, .int .i64 un, .bool ug, .slice uA uln ulc, .int .u64 uu, .string us, .slice uB um udd] 40)).heap[w3.heap.size]? = some (.cells #[.int .i64 uk, .int .i64 un, .bool ug, .slice uA uln ulc, .int .u64 uu, .string us, .slice uB um udd] 40 (0, 0)) := heap_alloc_new w3 _
            have hY := hb3.out.trans (aU.mono hb3.out.size)
            clear aU q0 q1 q2 q3 q4 q5 q6 q7 q8 t0 t1 t2 t3 t4 t5 t6
            generalize w3.alloc (.cells #[.int .i64 uk, .int .i64 un, .bool ug, .slice uA uln ulc, .int .u64 uu, .string us, .slice uB um udd] 40) = Y at *
            generalize w3.heap.size = U at *
            have HPY : Hid (∀ w', Below Y.heap.size Y w' → (w'.cell? ⟨D, 0, none⟩ = some (.int .i64 9) ∧ w'.cell? ⟨D, 1, none⟩ = some (.slice A2 (2 + i + 4) c2) ∧ w'.cell? ⟨D, 2, none⟩ = some (.int .i64 0) ∧ w'.cell? ⟨D, 3, none⟩ = some (.slice none 0 0) ∧ w'.cell? ⟨D, 4, none⟩ = some (.int .i64 (2 + (i : Int) + 4)) ∧ w'.cell? ⟨D, 5, none⟩ = some (.int .i64 0) ∧ w'.cell? ⟨D, 6, none⟩ = some (.slice none 0 0) ∧ w'.cell? ⟨D, 7, none⟩ = some (.slice (some ⟨RB, 0, none⟩) 2 2) ∧ w'.cell? ⟨D, 8, none⟩ = some (.slice none 0 0)) ∧ (w'.cell? ⟨G, 0, none⟩ = some (.int .i64 tk) ∧ w'.cell? ⟨G, 1, none⟩ = some (.int .i64 tn) ∧ w'.cell? ⟨G, 2, none⟩ = some (.bool tg) ∧ w'.cell? ⟨G, 3, none⟩ = some (.slice tA tln tlc) ∧ w'.cell? ⟨G, 4, none⟩ = some (.int .u64 tu) ∧ w'.cell? ⟨G, 5, none⟩ = some (.string ts) ∧ w'.cell? ⟨G, 6, none⟩ = some (.slice tB tm tdd)) ∧ (w'.cell? ⟨U, 0, none⟩ = some (.int .i64 uk) ∧ w'.cell? ⟨U, 1, none⟩ = some (.int .i64 un) ∧ w'.cell? ⟨U, 2, none⟩ = some (.bool ug) ∧ w'.cell? ⟨U, 3, none⟩ = some (.slice uA uln ulc) ∧ w'.cell? ⟨U, 4, none⟩ = some (.int .u64 uu) ∧ w'.cell? ⟨U, 5, none⟩ = some (.string us) ∧ w'.cell? ⟨U, 6, none⟩ = some (.slice uB um udd))) := Lib.hid (fun w' hb => by
              have m1 := (hb.block U (Array.getElem?_eq_some_iff.1 hU).1).trans hU
              obtain ⟨m2, m3⟩ := HPX.out w' (hY.trans (hb.mono hY.size))
              exact ⟨m2, m3, ⟨(cell_of_row w' U 0 _ _ (0, 0) m1).trans rfl, (cell_of_row w' U 1 _ _ (0, 0) m1).trans rfl, (cell_of_row w' U 2 _ _ (0, 0) m1).trans rfl, (cell_of_row w' U 3 _ _ (0, 0) m1).trans rfl, (cell_of_row w' U 4 _ _ (0, 0) m1).trans rfl, (cell_of_row w' U 5 _ _ (0, 0) m1).trans rfl, (cell_of_row w' U 6 _ _ (0, 0) m1).trans rfl⟩⟩)
            obtain ⟨⟨q0, q1, q2, q3, q4, q5, q6, q7, q8⟩, ⟨t0, t1, t2, t3, t4, t5, t6⟩, ⟨u0, u1, u2, u3, u4, u5, u6⟩⟩ := HPY.out Y (Below.refl _ _)
            replace hY := Lib.hid hY
            clear hU
            have hc : Hid (Below Y.heap.size Y Y) := Lib.hid (Below.refl _ _)
            go_upto_region 28 with (go_at_call 8; (with_reducible refine (same_bi (bi_tv htv.out) hsz).mono ?_); rintro e w4 ⟨rfl, hb4⟩; replace hc := Lib.hid (hc.out.trans (hb4.mono hc.out.size)); clear hb4)
            have hcd : Hid (Below Y.heap.size Y w4) := hc
            have hke : Hid (Below Y.heap.size Y w4.drew) := Lib.hid hc.out.drew
            have hex : (s.extract f ((f : Int) + (m : Int)).toNat).size ≤ maxLen := by rw [ByteArray.size_extract]; unfold maxLen; omega
            clear q0 q1 q2 q3 q4 q5 q6 q7 q8 t0 t1 t2 t3 t4 t5 t6 u0 u1 u2 u3 u4 u5 u6 hc
            obtain ⟨⟨q0, q1, q2, q3, q4, q5, q6, q7, q8⟩, ⟨t0, t1, t2, t3, t4, t5, t6⟩, ⟨u0, u1, u2, u3, u4, u5, u6⟩⟩ := HPY.out _ hcd.out
            have hc := hke
            have hfm2 : (f : Int) + (m : Int) ≤ (s.size : Int) := by omega
            have HFM := Lib.hid hfm2
            have hf0 : (0 : Int) ≤ (f : Int) := by omega
            have hff : (f : Int) ≤ (f : Int) + (m : Int) := by omega
            have hwr : IntKind.i64.wrap ((f : Int) + (m : Int)) = (f : Int) + (m : Int) := by rw [IntKind.wrap_i64]; omega
            have hw6 : IntKind.i64.wrap ((i : Int) + 6) = (i : Int) + 6 := by rw [IntKind.wrap_i64]; omega
            have hCL := CL
            clear CL hfm hfm2
            have hfm3 : (f : Int) + (m : Int) ≤ (s.size : Int) := HFM.out
            have hex2 := Lib.hid hex
            clear hex
            go_wp2_with fail
            go_region_held3 (fun w' => (w'.cell? ⟨D, 0, none⟩ = some (.int .i64 9) ∧ w'.cell? ⟨D, 1, none⟩ = some (.slice A2 (2 + i + 4) c2) ∧ w'.cell? ⟨D, 2, none⟩ = some (.int .i64 0) ∧ w'.cell? ⟨D, 3, none⟩ = some (.slice none 0 0) ∧ w'.cell? ⟨D, 4, none⟩ = some (.int .i64 (2 + (i : Int) + 4)) ∧ w'.cell? ⟨D, 5, none⟩ = some (.int .i64 0) ∧ w'.cell? ⟨D, 6, none⟩ = some (.slice none 0 0) ∧ w'.cell? ⟨D, 7, none⟩ = some (.slice (some ⟨RB, 0, none⟩) 2 2) ∧ w'.cell? ⟨D, 8, none⟩ = some (.slice none 0 0)) ∧ (w'.cell? ⟨G, 0, none⟩ = some (.int .i64 tk) ∧ w'.cell? ⟨G, 1, none⟩ = some (.int .i64 tn) ∧ w'.cell? ⟨G, 2, none⟩ = some (.bool tg) ∧ w'.cell? ⟨G, 3, none⟩ = some (.slice tA tln tlc) ∧ w'.cell? ⟨G, 4, none⟩ = some (.int .u64 tu) ∧ w'.cell? ⟨G, 5, none⟩ = some (.string ts) ∧ w'.cell? ⟨G, 6, none⟩ = some (.slice tB tm tdd)) ∧ (w'.cell? ⟨U, 0, none⟩ = some (.int .i64 uk) ∧ w'.cell? ⟨U, 1, none⟩ = some (.int .i64 un) ∧ w'.cell? ⟨U, 2, none⟩ = some (.bool ug) ∧ w'.cell? ⟨U, 3, none⟩ = some (.slice uA uln ulc) ∧ w'.cell? ⟨U, 4, none⟩ = some (.int .u64 uu) ∧ w'.cell? ⟨U, 5, none⟩ = some (.string us) ∧ w'.cell? ⟨U, 6, none⟩ = some (.slice uB um udd)))
              (first | with_reducible exact HPY.out _ hc.out | with_reducible exact HPY.out _ hcd.out)
              (first
                | (go_at_call 8; (with_reducible refine (same_bi (bi_tv huv.out) hex2.out).mono ?_); rintro e w5 ⟨rfl, hb5⟩; replace hc := Lib.hid (hc.out.trans (hb5.mono hc.out.size)); clear hb5)
                | (go_at_call 9; (with_reducible refine (CW.out _ (hY.out.trans (hc.out.mono hY.out.size))).mono ?_); rintro e w6 ⟨rfl, hb6⟩; replace hc := Lib.hid (hc.out.trans (hb6.mono hc.out.size)); clear hb6)
                | (go_at_call 10; (with_reducible refine (hCL.out _ (hY.out.trans (hc.out.mono hY.out.size))).mono ?_); rintro e w7 ⟨rfl, hb7⟩; replace hc := Lib.hid (hc.out.trans (hb7.mono hc.out.size)); clear hb7)
                | (go_at_call 4; (with_reducible refine (awake12_any _).mono ?_); rintro e w8 ⟨rfl, hb8⟩; replace hc := Lib.hid (hc.out.trans (hb8.mono hc.out.size)); clear hb8))
            go_wp2
            go_ret
            exact ⟨rfl, hxx.out.trans ((hY.out.trans (hc.out.mono hY.out.size)).mono hxx.out.size)⟩
          · have C3 := Lib.hid (fun w' (hb : Below X.heap.size X w') => p_readn (HDV.out w' (h3.out.trans (hb.mono hS3.out))) hl64 hls.out hf' hm' (by rw [hln.out]; omega))
            rw [if_neg (show ¬ ((f : Int) + m ≤ l.length) by rw [hln.out]; omega)] at CW
            have hd5 : decide ((s.size : Int) < (f : Int) + (m : Int)) = true := decide_eq_true (by omega)
            go_upto_region 24 with (go_at_call 7; (with_reducible refine (C3.out _ (Below.refl _ _)).mono ?_); rintro e w3 ⟨rfl, hb3⟩; replace hb3 := Lib.hid hb3)
            have aU := (Below.refl w3.heap.size w3).alloc (Nat.le_refl _) (.cells #[.int .i64 0, .int .i64 0, .bool false, .slice none 0 0, .int .u64 0, .string ⟨#[]⟩, .slice none 0 0] 40)
            have hY := hb3.out.trans (aU.mono hb3.out.size)
            clear aU q0 q1 q2 q3 q4 q5 q6 q7 q8 t0 t1 t2 t3 t4 t5 t6
            generalize w3.alloc (.cells #[.int .i64 0, .int .i64 0, .bool false, .slice none 0 0, .int .u64 0, .string ⟨#[]⟩, .slice none 0 0] 40) = Y at *
            generalize w3.heap.size = U at *
            obtain ⟨⟨q0, q1, q2, q3, q4, q5, q6, q7, q8⟩, ⟨t0, t1, t2, t3, t4, t5, t6⟩⟩ := HPX.out Y hY
            have hc : Hid (Below X.heap.size X Y) := Lib.hid hY
            clear hY
            go_wp2_with (first
              | (go_at_call 8; (with_reducible refine (same_bi (bi_tv htv.out) hsz).mono ?_); rintro e w4 ⟨rfl, hb4⟩; replace hc := Lib.hid (hc.out.trans (hb4.mono hc.out.size)); clear hb4; clear q0 q1 q2 q3 q4 q5 q6 q7 q8; obtain ⟨⟨q0, q1, q2, q3, q4, q5, q6, q7, q8⟩, _⟩ := HPX.out _ hc.out)
              | (go_at_call 9; (with_reducible refine (CW.out _ hc.out).mono ?_); rintro e w5 ⟨rfl, hb5⟩; replace hc := Lib.hid (hc.out.trans (hb5.mono hc.out.size)); clear hb5)
              | (go_at_call 4; (with_reducible refine (awake12_any _).mono ?_); rintro e w6 ⟨rfl, hb6⟩; replace hc := Lib.hid (hc.out.trans (hb6.mono hc.out.size)); clear hb6))
            go_ret
            exact ⟨rfl, hxx.out.trans (hc.out.mono hxx.out.size)⟩
        · have hT := set7h ht.out (.int .i64 tk) (.int .i64 tn) (.bool tg) (.slice tA tln tlc) (.int .u64 tu) (.string ts) (.slice tB tm tdd)
          have h3 := Lib.hid (set7b h2b.out (Nat.le_refl _) (.int .i64 tk) (.int .i64 tn) (.bool tg) (.slice tA tln tlc) (.int .u64 tu) (.string ts) (.slice tB tm tdd))
          have hS3 := Lib.hid h3.out.size
          clear t0 t1 t2 t3 t4 t5 t6 f0 f1 f2 f3 f4 f5 f6 ht
          generalize (((((((w2.setCell ⟨W9.heap.size, 0, none⟩ (.int .i64 tk)).setCell ⟨W9.heap.size, 1, none⟩ (.int .i64 tn)).setCell ⟨W9.heap.size, 2, none⟩ (.bool tg)).setCell ⟨W9.heap.size, 3, none⟩ (.slice tA tln tlc)).setCell ⟨W9.heap.size, 4, none⟩ (.int .u64 tu)).setCell ⟨W9.heap.size, 5, none⟩ (.string ts)).setCell ⟨W9.heap.size, 6, none⟩ (.slice tB tm tdd)) = X at *
          generalize W9.heap.size = G at *
          have HPX : Hid (∀ w', Below X.heap.size X w' → (w'.cell? ⟨D, 0, none⟩ = some (.int .i64 9) ∧ w'.cell? ⟨D, 1, none⟩ = some (.slice A2 (2 + i + 4) c2) ∧ w'.cell? ⟨D, 2, none⟩ = some (.int .i64 0) ∧ w'.cell? ⟨D, 3, none⟩ = some (.slice none 0 0) ∧ w'.cell? ⟨D, 4, none⟩ = some (.int .i64 (2 + (i : Int) + 4)) ∧ w'.cell? ⟨D, 5, none⟩ = some (.int .i64 0) ∧ w'.cell? ⟨D, 6, none⟩ = some (.slice none 0 0) ∧ w'.cell? ⟨D, 7, none⟩ = some (.slice (some ⟨RB, 0, none⟩) 2 2) ∧ w'.cell? ⟨D, 8, none⟩ = some (.slice none 0 0)) ∧ (w'.cell? ⟨G, 0, none⟩ = some (.int .i64 tk) ∧ w'.cell? ⟨G, 1, none⟩ = some (.int .i64 tn) ∧ w'.cell? ⟨G, 2, none⟩ = some (.bool tg) ∧ w'.cell? ⟨G, 3, none⟩ = some (.slice tA tln tlc) ∧ w'.cell? ⟨G, 4, none⟩ = some (.int .u64 tu) ∧ w'.cell? ⟨G, 5, none⟩ = some (.string ts) ∧ w'.cell? ⟨G, 6, none⟩ = some (.slice tB tm tdd))) := Lib.hid (fun w' hb => by
            have m1 := (hb.block G (Array.getElem?_eq_some_iff.1 hT).1).trans hT
            exact ⟨(HP9.out w' (h3.out.trans (hb.mono hS3.out))).1, ⟨(cell_of_row w' G 0 _ _ (0, 0) m1).trans rfl, (cell_of_row w' G 1 _ _ (0, 0) m1).trans rfl, (cell_of_row w' G 2 _ _ (0, 0) m1).trans rfl, (cell_of_row w' G 3 _ _ (0, 0) m1).trans rfl, (cell_of_row w' G 4 _ _ (0, 0) m1).trans rfl, (cell_of_row w' G 5 _ _ (0, 0) m1).trans rfl, (cell_of_row w' G 6 _ _ (0, 0) m1).trans rfl⟩⟩)
          have CW := Lib.hid (fun w' (hb : Below X.heap.size X w') => p_whyc (HDV.out w' (h3.out.trans (hb.mono hS3.out))) hl64 hls.out hf' hm')
          obtain ⟨⟨q0, q1, q2, q3, q4, q5, q6, q7, q8⟩, ⟨t0, t1, t2, t3, t4, t5, t6⟩⟩ := HPX.out X (Below.refl _ _)
          have hxx : Hid (Below w.heap.size w X) := Lib.hid (by rw [hD.out]; exact BE9.out.trans (h3.out.mono (Nat.le_of_lt hDW.out)))
          clear hT
          by_cases hfm : f + m ≤ s.size
          · have C2 := Lib.hid (fun w' (hb : Below X.heap.size X w') => p_readp (HDV.out w' (h3.out.trans (hb.mono hS3.out))) hl64 hls.out hf' hm' (by rw [hln.out]; omega))
            have CL := Lib.hid (fun w' (hb : Below X.heap.size X w') => p_livec (HDV.out w' (h3.out.trans (hb.mono hS3.out))) hl64 hls.out hf' hm' (by rw [hln.out]; omega))
            rw [hst.out] at C2
            simp only [Int.toNat_natCast] at C2
            rw [show f + m = ((f : Int) + (m : Int)).toNat by omega] at C2
            rw [hnn.out] at CL
            rw [if_pos (show (f : Int) + m ≤ l.length by rw [hln.out]; omega)] at CW
            have hd5 : decide ((s.size : Int) < (f : Int) + (m : Int)) = false := decide_eq_false (by omega)
            go_upto_region 24 with (go_at_call 7; (with_reducible refine (C2.out _ (Below.refl _ _)).mono ?_); rintro e w3 ⟨⟨uk, un, ug, uA, uln, ulc, uu, us, uB, um, udd, rfl, huv⟩, hb3⟩; replace huv := Lib.hid huv; replace hb3 := Lib.hid hb3)
            have aU := (Below.refl w3.heap.size w3).alloc (Nat.le_refl _) (.cells #[.int .i64 uk, .int .i64 un, .bool ug, .slice uA uln ulc, .int .u64 uu, .string us, .slice uB um udd] 40)
            have hU : (w3.alloc (.cells #[.int .i64 uk, .int .i64 un, .bool ug, .slice uA uln ulc, .int .u64 uu, .string us, .slice uB um udd] 40)).heap[w3.heap.size]? = some (.cells #[.int .i64 uk, .int .i64 un, .bool ug, .slice uA uln ulc, .int .u64 uu, .string us, .slice uB um udd] 40 (0, 0)) := heap_alloc_new w3 _
            have hY := hb3.out.trans (aU.mono hb3.out.size)
            clear aU q0 q1 q2 q3 q4 q5 q6 q7 q8 t0 t1 t2 t3 t4 t5 t6
            generalize w3.alloc (.cells #[.int .i64 uk, .int .i64 un, .bool ug, .slice uA uln ulc, .int .u64 uu, .string us, .slice uB um udd] 40) = Y at *
            generalize w3.heap.size = U at *
            have HPY : Hid (∀ w', Below Y.heap.size Y w' → (w'.cell? ⟨D, 0, none⟩ = some (.int .i64 9) ∧ w'.cell? ⟨D, 1, none⟩ = some (.slice A2 (2 + i + 4) c2) ∧ w'.cell? ⟨D, 2, none⟩ = some (.int .i64 0) ∧ w'.cell? ⟨D, 3, none⟩ = some (.slice none 0 0) ∧ w'.cell? ⟨D, 4, none⟩ = some (.int .i64 (2 + (i : Int) + 4)) ∧ w'.cell? ⟨D, 5, none⟩ = some (.int .i64 0) ∧ w'.cell? ⟨D, 6, none⟩ = some (.slice none 0 0) ∧ w'.cell? ⟨D, 7, none⟩ = some (.slice (some ⟨RB, 0, none⟩) 2 2) ∧ w'.cell? ⟨D, 8, none⟩ = some (.slice none 0 0)) ∧ (w'.cell? ⟨G, 0, none⟩ = some (.int .i64 tk) ∧ w'.cell? ⟨G, 1, none⟩ = some (.int .i64 tn) ∧ w'.cell? ⟨G, 2, none⟩ = some (.bool tg) ∧ w'.cell? ⟨G, 3, none⟩ = some (.slice tA tln tlc) ∧ w'.cell? ⟨G, 4, none⟩ = some (.int .u64 tu) ∧ w'.cell? ⟨G, 5, none⟩ = some (.string ts) ∧ w'.cell? ⟨G, 6, none⟩ = some (.slice tB tm tdd)) ∧ (w'.cell? ⟨U, 0, none⟩ = some (.int .i64 uk) ∧ w'.cell? ⟨U, 1, none⟩ = some (.int .i64 un) ∧ w'.cell? ⟨U, 2, none⟩ = some (.bool ug) ∧ w'.cell? ⟨U, 3, none⟩ = some (.slice uA uln ulc) ∧ w'.cell? ⟨U, 4, none⟩ = some (.int .u64 uu) ∧ w'.cell? ⟨U, 5, none⟩ = some (.string us) ∧ w'.cell? ⟨U, 6, none⟩ = some (.slice uB um udd))) := Lib.hid (fun w' hb => by
              have m1 := (hb.block U (Array.getElem?_eq_some_iff.1 hU).1).trans hU
              obtain ⟨m2, m3⟩ := HPX.out w' (hY.trans (hb.mono hY.size))
              exact ⟨m2, m3, ⟨(cell_of_row w' U 0 _ _ (0, 0) m1).trans rfl, (cell_of_row w' U 1 _ _ (0, 0) m1).trans rfl, (cell_of_row w' U 2 _ _ (0, 0) m1).trans rfl, (cell_of_row w' U 3 _ _ (0, 0) m1).trans rfl, (cell_of_row w' U 4 _ _ (0, 0) m1).trans rfl, (cell_of_row w' U 5 _ _ (0, 0) m1).trans rfl, (cell_of_row w' U 6 _ _ (0, 0) m1).trans rfl⟩⟩)
            obtain ⟨⟨q0, q1, q2, q3, q4, q5, q6, q7, q8⟩, ⟨t0, t1, t2, t3, t4, t5, t6⟩, ⟨u0, u1, u2, u3, u4, u5, u6⟩⟩ := HPY.out Y (Below.refl _ _)
            replace hY := Lib.hid hY
            clear hU
            have hc : Hid (Below Y.heap.size Y Y) := Lib.hid (Below.refl _ _)
            go_upto_region 28 with (go_at_call 8; (with_reducible refine (same_bi (bi_tv htv.out) hsz).mono ?_); rintro e w4 ⟨rfl, hb4⟩; replace hc := Lib.hid (hc.out.trans (hb4.mono hc.out.size)); clear hb4)
            have hcd : Hid (Below Y.heap.size Y w4) := hc
            have hke : Hid (Below Y.heap.size Y w4.drew) := Lib.hid hc.out.drew
            have hex : (s.extract f ((f : Int) + (m : Int)).toNat).size ≤ maxLen := by rw [ByteArray.size_extract]; unfold maxLen; omega
            clear q0 q1 q2 q3 q4 q5 q6 q7 q8 t0 t1 t2 t3 t4 t5 t6 u0 u1 u2 u3 u4 u5 u6 hc
            obtain ⟨⟨q0, q1, q2, q3, q4, q5, q6, q7, q8⟩, ⟨t0, t1, t2, t3, t4, t5, t6⟩, ⟨u0, u1, u2, u3, u4, u5, u6⟩⟩ := HPY.out _ hcd.out
            have hc := hke
            have hfm2 : (f : Int) + (m : Int) ≤ (s.size : Int) := by omega
            have HFM := Lib.hid hfm2
            have hf0 : (0 : Int) ≤ (f : Int) := by omega
            have hff : (f : Int) ≤ (f : Int) + (m : Int) := by omega
            have hwr : IntKind.i64.wrap ((f : Int) + (m : Int)) = (f : Int) + (m : Int) := by rw [IntKind.wrap_i64]; omega
            have hw6 : IntKind.i64.wrap ((i : Int) + 6) = (i : Int) + 6 := by rw [IntKind.wrap_i64]; omega
            have hCL := CL
            clear CL hfm hfm2
            have hfm3 : (f : Int) + (m : Int) ≤ (s.size : Int) := HFM.out
            have hex2 := Lib.hid hex
            clear hex
            go_wp2_with fail
            go_region_held3 (fun w' => (w'.cell? ⟨D, 0, none⟩ = some (.int .i64 9) ∧ w'.cell? ⟨D, 1, none⟩ = some (.slice A2 (2 + i + 4) c2) ∧ w'.cell? ⟨D, 2, none⟩ = some (.int .i64 0) ∧ w'.cell? ⟨D, 3, none⟩ = some (.slice none 0 0) ∧ w'.cell? ⟨D, 4, none⟩ = some (.int .i64 (2 + (i : Int) + 4)) ∧ w'.cell? ⟨D, 5, none⟩ = some (.int .i64 0) ∧ w'.cell? ⟨D, 6, none⟩ = some (.slice none 0 0) ∧ w'.cell? ⟨D, 7, none⟩ = some (.slice (some ⟨RB, 0, none⟩) 2 2) ∧ w'.cell? ⟨D, 8, none⟩ = some (.slice none 0 0)) ∧ (w'.cell? ⟨G, 0, none⟩ = some (.int .i64 tk) ∧ w'.cell? ⟨G, 1, none⟩ = some (.int .i64 tn) ∧ w'.cell? ⟨G, 2, none⟩ = some (.bool tg) ∧ w'.cell? ⟨G, 3, none⟩ = some (.slice tA tln tlc) ∧ w'.cell? ⟨G, 4, none⟩ = some (.int .u64 tu) ∧ w'.cell? ⟨G, 5, none⟩ = some (.string ts) ∧ w'.cell? ⟨G, 6, none⟩ = some (.slice tB tm tdd)) ∧ (w'.cell? ⟨U, 0, none⟩ = some (.int .i64 uk) ∧ w'.cell? ⟨U, 1, none⟩ = some (.int .i64 un) ∧ w'.cell? ⟨U, 2, none⟩ = some (.bool ug) ∧ w'.cell? ⟨U, 3, none⟩ = some (.slice uA uln ulc) ∧ w'.cell? ⟨U, 4, none⟩ = some (.int .u64 uu) ∧ w'.cell? ⟨U, 5, none⟩ = some (.string us) ∧ w'.cell? ⟨U, 6, none⟩ = some (.slice uB um udd)))
              (first | with_reducible exact HPY.out _ hc.out | with_reducible exact HPY.out _ hcd.out)
              (first
                | (go_at_call 8; (with_reducible refine (same_bi (bi_tv huv.out) hex2.out).mono ?_); rintro e w5 ⟨rfl, hb5⟩; replace hc := Lib.hid (hc.out.trans (hb5.mono hc.out.size)); clear hb5)
                | (go_at_call 9; (with_reducible refine (CW.out _ (hY.out.trans (hc.out.mono hY.out.size))).mono ?_); rintro e w6 ⟨rfl, hb6⟩; replace hc := Lib.hid (hc.out.trans (hb6.mono hc.out.size)); clear hb6)
                | (go_at_call 10; (with_reducible refine (hCL.out _ (hY.out.trans (hc.out.mono hY.out.size))).mono ?_); rintro e w7 ⟨rfl, hb7⟩; replace hc := Lib.hid (hc.out.trans (hb7.mono hc.out.size)); clear hb7)
                | (go_at_call 4; (with_reducible refine (awake12_any _).mono ?_); rintro e w8 ⟨rfl, hb8⟩; replace hc := Lib.hid (hc.out.trans (hb8.mono hc.out.size)); clear hb8))
            go_wp2
            go_ret
            exact ⟨rfl, hxx.out.trans ((hY.out.trans (hc.out.mono hY.out.size)).mono hxx.out.size)⟩
          · have C3 := Lib.hid (fun w' (hb : Below X.heap.size X w') => p_readn (HDV.out w' (h3.out.trans (hb.mono hS3.out))) hl64 hls.out hf' hm' (by rw [hln.out]; omega))
            rw [if_neg (show ¬ ((f : Int) + m ≤ l.length) by rw [hln.out]; omega)] at CW
            have hd5 : decide ((s.size : Int) < (f : Int) + (m : Int)) = true := decide_eq_true (by omega)
            go_upto_region 24 with (go_at_call 7; (with_reducible refine (C3.out _ (Below.refl _ _)).mono ?_); rintro e w3 ⟨rfl, hb3⟩; replace hb3 := Lib.hid hb3)
            have aU := (Below.refl w3.heap.size w3).alloc (Nat.le_refl _) (.cells #[.int .i64 0, .int .i64 0, .bool false, .slice none 0 0, .int .u64 0, .string ⟨#[]⟩, .slice none 0 0] 40)
            have hY := hb3.out.trans (aU.mono hb3.out.size)
            clear aU q0 q1 q2 q3 q4 q5 q6 q7 q8 t0 t1 t2 t3 t4 t5 t6
            generalize w3.alloc (.cells #[.int .i64 0, .int .i64 0, .bool false, .slice none 0 0, .int .u64 0, .string ⟨#[]⟩, .slice none 0 0] 40) = Y at *
            generalize w3.heap.size = U at *
            obtain ⟨⟨q0, q1, q2, q3, q4, q5, q6, q7, q8⟩, ⟨t0, t1, t2, t3, t4, t5, t6⟩⟩ := HPX.out Y hY
            have hc : Hid (Below X.heap.size X Y) := Lib.hid hY
            clear hY
            go_wp2_with (first
              | (go_at_call 8; (with_reducible refine (same_bi (bi_tv htv.out) hsz).mono ?_); rintro e w4 ⟨rfl, hb4⟩; replace hc := Lib.hid (hc.out.trans (hb4.mono hc.out.size)); clear hb4; clear q0 q1 q2 q3 q4 q5 q6 q7 q8; obtain ⟨⟨q0, q1, q2, q3, q4, q5, q6, q7, q8⟩, _⟩ := HPX.out _ hc.out)
              | (go_at_call 9; (with_reducible refine (CW.out _ hc.out).mono ?_); rintro e w5 ⟨rfl, hb5⟩; replace hc := Lib.hid (hc.out.trans (hb5.mono hc.out.size)); clear hb5)
              | (go_at_call 4; (with_reducible refine (awake12_any _).mono ?_); rintro e w6 ⟨rfl, hb6⟩; replace hc := Lib.hid (hc.out.trans (hb6.mono hc.out.size)); clear hb6))
            go_ret
            exact ⟨rfl, hxx.out.trans (hc.out.mono hxx.out.size)⟩
-- ENDREST
  · have hd : decide (64 < (s.size : Int)) = true := decide_eq_true (by omega)
    go_enter Try.func3, Try.ntmps3
    go_wp2_with (go_at_call 4; (with_reducible refine (awake12_any _).mono ?_); rintro e w9 ⟨rfl, hb9⟩)
    go_ret
    exact ⟨rfl, hb9⟩
end Go.Proofs.Ytejmmjedognaaaa
