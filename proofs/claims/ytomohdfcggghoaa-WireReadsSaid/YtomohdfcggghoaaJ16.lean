/-
  THE REFERENCE's flag, lay.
  THE REFERENCE's Lay.
  LendBytes, KeptBytes, OverBytes (beehivelaw0).
  THE WALK OF WireLays.
-/
import Derived.Test.YtomohdfcggghoaaJ9
import Derived.Deep.RegionHeld3
import Derived.Test.YtomohdfcggghoaaJ14
import Derived.Test.YtomohdfcggghoaaJ11
namespace Go.Proofs.Ytomohdfcggghoaa
open Go.RowKit

set_option maxRecDepth 100000 in
theorem flag7_any (g : Bool) (w : World) : Calls Try.prog 38 #[.bool g] w fun e w' => e = .returned (.int .u64 ((if g = true then 1 else 0 : Nat) : Int)) ∧ w = w' := by
  cases g
  all_goals
    go_enter Try.func38, Try.ntmps38
    go_wp2
    go_ret
    exact ⟨rfl, rfl⟩
set_option maxRecDepth 100000 in
theorem bes_one (z : Nat) : Wr.bes z 1 = [z % 256] := by simp [Wr.bes]
set_option maxRecDepth 100000 in
theorem step_app2 {P : Program} {ops : Array Oper} {o : Oper} {a : Act} {w w' : World} {K : Act → World → Prop} {Q : Exit → Act → World → Prop} {E : Prop}
    (hg : o.guard = none) (s x : Operand) (t u : TypeId) (hop : o.op = Op.call { callee := Callee.builtin Builtin.append, args := #[s, x], argTypes := #[t, u] })
    (v y v' : Value) (hs : a.eval s = v) (hx : a.eval x = y) (hrun : (Builtin.append_ #[t, u] o.type #[v, y]).run P w = .ok v' w')
    (hK : K (a.put o.dst v') w') : if Region.wanted o (yielded ops a.tmps) = true then Oper.wp P o a w K Q else E := by
  have hw : Region.wanted o (yielded ops a.tmps) = true := by simp [Region.wanted, hg]
  rw [if_pos hw]
  unfold Oper.wp
  simp [execOp, hop, resolve, invoke, builtin, hs, hx, hrun, Result.andThen]
  exact hK
set_option maxRecDepth 100000 in
theorem Gr.drew {w w' : World} {A A' : Option Addr} (h : Gr w w' A A') : Gr w w'.drew A A' := ⟨⟨h.g.os, h.g.tape, h.g.output, h.g.size, h.g.block⟩, h.loc⟩
set_option maxRecDepth 100000 in
theorem Bo.drew {w : World} {base n c : Nat} {A : Option Addr} {l : List Nat} (h : Bo w base A n c l) : Bo w.drew base A n c l := h.below (Below.refl _ _).drew
/-- The variable that holds the term, and a row that lies elsewhere. -/
structure Lw (w : World) (r : TR) (W : World) (A : Option Addr) : Prop where
  bx : Box7 W w.heap.size r
  av : Av A w.heap.size
set_option maxRecDepth 100000 in
theorem Lw.grow {w : World} {r : TR} {W W' : World} {A A' : Option Addr} (h : Lw w r W A) (k : Gr W W' A A') : Lw w r W' A' :=
  ⟨h.bx.keep (k.box h.bx.lt h.av), k.av h.bx.lt h.av⟩
set_option maxRecDepth 100000 in
theorem Lw.drew {w : World} {r : TR} {W : World} {A : Option Addr} (h : Lw w r W A) : Lw w r W.drew A := ⟨h.bx, h.av⟩

set_option maxRecDepth 100000 in
set_option maxHeartbeats 8000000 in
theorem refLay_any (t : Tm) : ∀ (w w0 : World) (r : TR), TV w0 r t → t.Ok → ∀ (A : Option Addr) (n c : Nat) (l : List Nat), Bo w w0.heap.size A n c l → Below w0.heap.size w0 w → n + (Wr.enc t).length ≤ 6000000 →
    Calls Try.prog 25 #[.slice A n c, .agg #[.int .i64 r.k, .int .i64 r.n, .bool r.g, .slice r.A r.ln r.lc, .int .u64 r.u, .string r.s, .slice r.B r.m r.d]] w (LdP w w0.heap.size A n l (Wr.enc t)) := by
  induction t using Tm.ind with
  | h k' nn g' l' u' s' ks ih =>
    intro w w0 r htv hok A n c l hB hb0 hlen
    have IH := Lib.hid ih
    clear ih
    have hbase := hb0.size
    obtain ⟨W, hW⟩ : ∃ W, W = w.alloc (.cells #[.int .i64 r.k, .int .i64 r.n, .bool r.g, .slice r.A r.ln r.lc, .int .u64 r.u, .string r.s, .slice r.B r.m r.d] 28) := ⟨_, rfl⟩
    have hwW : Below w.heap.size w W := by rw [hW]; exact (Below.refl w.heap.size w).alloc (Nat.le_refl _) _
    have hsW : W.heap.size = w.heap.size + 1 := by rw [hW]; simp
    have hgW : Gr w W A A := by rw [hW]; exact (Gr.refl w A).alloc _
    have kW : Box7 W w.heap.size r := by rw [hW]; exact Box7.new w r
    have hA := hB.below hwW
    have henc : (Wr.enc (Tm.mk k' nn g' l' u' s' ks)).length = 1 + (Wr.body r.k r.n r.g l' r.u r.s r.m).length + (Wr.encs ks).length := by rw [Wr.enc_eq, show (Tm.mk k' nn g' l' u' s' ks).args.length = r.m from htv.len, htv.kind, htv.num, htv.neg, htv.bits, htv.bytes, List.length_cons, List.length_append]; simp only [Tm.mag, Tm.args]; omega
    obtain ⟨A1, c1, w1, hrun, hB1, hb1⟩ := hA.puts (by omega) [(r.k % 256).toNat] (by intro y hy; simp at hy; omega) (by simp; omega) #[.int .u8 (r.k % 256)] (by simp [brr]; omega) 1 rfl
    have L0 : Lw w r W A := ⟨kW, hB.av (Nat.le_refl _)⟩
    have L1 := L0.grow hb1
    have G1 := hgW.trans hb1
    rw [hsW] at hrun
    rw [hW] at hrun
    have HR := Lib.hid hrun
    clear hrun hb1 hA hwW hgW kW L0
    have y0 := L1.bx.at.c0; have y1 := L1.bx.at.c1; have y2 := L1.bx.at.c2; have y3 := L1.bx.at.c3; have y4 := L1.bx.at.c4; have y5 := L1.bx.at.c5; have y6 := L1.bx.at.c6
    go_enter Try.func25, Try.ntmps25
    go_upto_block 0 with (at_builtin; refine wpList_append_run rfl _ _ _ rfl _ _ _ rfl rfl HR.out ?_)
    clear HR
    have hle : w0.heap.size ≤ w1.heap.size := Nat.le_trans hbase G1.g.size
    obtain ⟨BD, hBD⟩ : ∃ BD, BD = Wr.body r.k r.n r.g l' r.u r.s r.m := ⟨_, rfl⟩
    rw [← hBD] at henc
    have HBD := Lib.hid hBD
    clear hBD
    go_cut [0, 5] from 15 to 85 (fun b _ wx => ∃ (A' : Option Addr) (N c' : Nat), b = .slice A' N c' ∧ N = n + 1 + BD.length ∧ Bo wx w0.heap.size A' N c' (l ++ [(r.k % 256).toNat] ++ BD) ∧ Gr w1 wx A1 A')
    case first =>
      have hn1 : n + 1 ≤ 6000000 := by omega
      clear henc hlen
      by_cases h1 : r.k = 1
      · have d1 : (r.k == 1) = true := by rw [beq_iff_eq]; exact h1
        have bd := HBD.out
        rw [Wr.body, if_pos h1] at bd
        subst bd
        clear h1 HBD
        go_wp2_with fail
        have Q := refNum7_at w1 w0.heap.size A1 (n + 1) c1 _ hB1 hle (by omega) (IntKind.u64.wrap r.n) 8 (r.n % 18446744073709551616).toNat 8 (by simp [IntKind.wrap, IntKind.bits, IntKind.signed]; omega) rfl (by omega)
        (with_reducible refine Q.mono ?_)
        rintro e w2 ⟨A2, c2, rfl, hB2, hG2⟩
        go_wp2
        go_meet
        exact ⟨A2, _, c2, rfl, rfl, hB2, hG2⟩
      have d1 : (r.k == 1) = false := by rw [beq_eq_false_iff_ne]; exact h1
      by_cases h4 : r.k = 4 ∨ r.k = 5
      · have bd := HBD.out
        rw [Wr.body, if_neg h1, if_neg (by omega), if_neg (by omega), if_pos h4] at bd
        have Q := refNum7_at w1 w0.heap.size A1 (n + 1) c1 _ hB1 hle (by omega) (IntKind.u64.wrap r.n) 1 (r.n % 18446744073709551616).toNat 1 (by simp [IntKind.wrap, IntKind.bits, IntKind.signed]; omega) rfl (by omega)
        rw [bes_one, show (r.n % 18446744073709551616).toNat % 256 = (r.n % 256).toNat by omega, ← bd] at Q
        have HBD' := Lib.hid bd
        clear bd
        clear h1 HBD
        rcases h4 with h4 | h4
        · have d4 : (r.k == 4) = true := by rw [beq_iff_eq]; exact h4
          clear h4
          go_wp2_with fail
          (with_reducible refine Q.mono ?_)
          rintro e w2 ⟨A2, c2, rfl, hB2, hG2⟩
          go_wp2
          go_meet
          exact ⟨A2, _, c2, rfl, rfl, hB2, hG2⟩
        · have d4 : (r.k == 4) = false := by rw [beq_eq_false_iff_ne]; omega
          have d5 : (r.k == 5) = true := by rw [beq_iff_eq]; exact h4
          clear h4
          go_wp2_with fail
          (with_reducible refine Q.mono ?_)
          rintro e w2 ⟨A2, c2, rfl, hB2, hG2⟩
          go_wp2
          go_meet
          exact ⟨A2, _, c2, rfl, rfl, hB2, hG2⟩
      have d4 : (r.k == 4) = false := by rw [beq_eq_false_iff_ne]; omega
      have d5 : (r.k == 5) = false := by rw [beq_eq_false_iff_ne]; omega
      by_cases h2 : r.k = 2
      · have d2 : (r.k == 2) = true := by rw [beq_iff_eq]; exact h2
        have bd := HBD.out
        have hml : l'.length = r.ln := htv.magLen
        rw [Wr.body, if_neg h1, if_pos h2, hml] at bd
        have HM := Lib.hid hml
        have HBD' := Lib.hid bd
        have hlim : Lim w0 r.A r.ln r.lc l' := htv.flat.lim
        have hln := Ok.limbs htv hok
        have hlc := htv.flat.cap
        unfold maxLen at hlc
        have hlc' := hlim.2.1
        clear h1 h2 h4 HBD bd hml
        obtain ⟨fl, hfl⟩ : ∃ fl : Nat, fl = (if r.g = true then 1 else 0) := ⟨_, rfl⟩
        have HF := Lib.hid hfl
        have hf1 : fl < 256 := by rw [hfl]; split <;> omega
        have Fq := flag7_any r.g
        rw [← hfl] at Fq
        clear hfl
        go_upto_region 9 with fail
        have Ld := L1.drew
        have Bd := hB1.drew
        have z1d : w1.drew.heap.size = w1.heap.size := rfl
        clear y0 y1 y2 y3 y4 y5 y6
        go_region_held3 (fun w' => w'.cell? ⟨w.heap.size, 2, none⟩ = some (.bool r.g) ∧ w'.cell? ⟨w.heap.size, 3, none⟩ = some (.slice r.A r.ln r.lc))
          (first | with_reducible exact ⟨Ld.bx.at.c2, Ld.bx.at.c3⟩ | with_reducible exact ⟨La.bx.at.c2, La.bx.at.c3⟩ | with_reducible exact ⟨Lb.bx.at.c2, Lb.bx.at.c3⟩)
          (first
            | (go_at_call 38; refine (Fq w1.drew).mono ?_; rintro e v0 ⟨rfl, rfl⟩)
            | (go_at_call 37; have Q := refNum7_at w1.drew w0.heap.size A1 (n + 1) c1 _ Bd hle (by omega) (fl : Nat) 1 fl 1 rfl rfl (by omega); (with_reducible refine Q.mono ?_); clear Q; rintro e v1 ⟨A2, c2, rfl, B2, G2⟩; rw [Wr.bes_len]; have La := Ld.grow G2; have B2' : Bo v1 w0.heap.size A2 (n + 1 + 1) c2 (l ++ [(r.k % 256).toNat] ++ [fl % 256]) := (by rw [bes_one] at B2; exact B2); have zz := G2.g.size; clear Bd B2)
            | (go_at_call 37; have Q := refNum7_at v1 w0.heap.size A2 (n + 1 + 1) c2 _ B2' (by omega) (by omega) (IntKind.u64.wrap (r.ln : Int)) 1 r.ln 1 (by rw [IntKind.wrap_u64]; omega) rfl (by omega); (with_reducible refine Q.mono ?_); clear Q; rintro e v2 ⟨A3, c3, rfl, B3, G3⟩; rw [Wr.bes_len]; have Lb := La.grow G3; have B3' : Bo v2 w0.heap.size A3 (n + 1 + 1 + 1) c3 (l ++ [(r.k % 256).toNat] ++ [fl % 256] ++ [r.ln % 256]) := (by rw [bes_one] at B3; exact B3); have G4 := (((Gr.refl w1 A1).drew).trans G2).trans G3; clear B2' B3))
        clear Ld La G2 G3
        have hbw1 := hb0.trans (G1.below hB hbase)
        go_wp2_with fail
        go_loopw [0, 5] (fun b i w' => ∃ (j c' n' : Nat) (A' : Option Addr), j ≤ r.ln ∧ n' = n + 1 + (2 + 4 * j) ∧ i = .int .i64 (j : Int) ∧ b = .slice A' n' c' ∧ Bo w' w0.heap.size A' n' c' (l ++ [(r.k % 256).toNat] ++ [fl % 256] ++ [r.ln % 256] ++ Wr.limbs (l'.take j)) ∧ Gr w1 w' A1 A' ∧ Lw w r w' A') (fun _ i _ => r.ln - (intOf i).toNat)
        case atStart => exact ⟨0, c3, n + 1 + 1 + 1, A3, Nat.zero_le _, rfl, rfl, rfl, by simpa [Wr.limbs] using B3', G4, Lb⟩
        case round =>
          clear B3' G4 Lb
          obtain ⟨j, c', n', A', hj, hn', rfl, rfl, hB', hG, Lj⟩ := hrel
          have HN' := Lib.hid hn'
          clear hn'
          have hbw := hbw1.trans (hG.below hB1 hle)
          have hle' := hbw.size
          have y3 := Lj.bx.at.c3
          by_cases hjm : j < r.ln
          · have hd1 : decide ((j : Int) < (r.ln : Int)) = true := by rw [decide_eq_true_iff]; omega
            obtain ⟨b, o, e, hlt, hcell⟩ := (hlim.below hbw).2.2.2 (by omega)
            have hg := hcell j hjm
            have hx32 := Lm.lg_lt hlim.2.2.1 j
            have hst := Lib.hid (limbs_take (l := l') (j := j) (by have := HM.out; omega))
            have Q := refNum7_at wr w0.heap.size A' n' c' _ hB' hle' (by have := HN'.out; omega) (Lm.lg l' j : Nat) 4 (Lm.lg l' j) 4 rfl rfl (by omega)
            rw [e] at y3
            clear hcell e
            go_wp2_with fail
            (with_reducible refine Q.mono ?_)
            rintro e w2 ⟨A5, c5, rfl, hB5, hG5⟩
            rw [Wr.bes_len] at hB5 ⊢
            have HB5 := Lib.hid hB5
            have L5 := Lj.grow hG5
            clear hB5 Lj hg y3 Q hB'
            go_wp2
            exact ⟨⟨j + 1, c5, n' + 4, A5, by omega, by have := HN'.out; omega, by go_num, rfl, by rw [hst.out, ← List.append_assoc]; exact HB5.out, hG.trans hG5, L5⟩, by simp [intOf]; omega⟩
          · have hd1 : decide ((j : Int) < (r.ln : Int)) = false := by rw [decide_eq_false_iff_not]; omega
            have e : j = r.ln := by omega
            go_wp2
            go_meet
            have e2 : l'.take j = l' := List.take_of_length_le (by have := HM.out; omega)
            rw [e2] at hB'
            have hff : fl % 256 = fl := Nat.mod_eq_of_lt hf1
            refine ⟨A', _, c', rfl, ?_, ?_, hG⟩
            · rw [HBD'.out]; have := HN'.out; simp only [List.length_cons, Wr.limbs_len, HM.out]; omega
            · rw [HBD'.out, ← HF.out]
              rw [hff] at hB'
              simpa using hB'
      have d2 : (r.k == 2) = false := by rw [beq_eq_false_iff_ne]; exact h2
      by_cases h3 : r.k = 3
      · have d3 : (r.k == 3) = true := by rw [beq_iff_eq]; exact h3
        have bd := HBD.out
        rw [Wr.body, if_neg h1, if_neg h2, if_pos h3] at bd
        subst bd
        clear h1 h2 h3 h4 HBD
        go_wp2_with fail
        have Q := refNum7_at w1 w0.heap.size A1 (n + 1) c1 _ hB1 hle (by omega) r.u 8 r.u.toNat 8 (by have := htv.flat.u0; omega) rfl (by omega)
        (with_reducible refine Q.mono ?_)
        rintro e w2 ⟨A2, c2, rfl, hB2, hG2⟩
        go_wp2
        go_meet
        exact ⟨A2, _, c2, rfl, rfl, hB2, hG2⟩
      have d3 : (r.k == 3) = false := by rw [beq_eq_false_iff_ne]; exact h3
      by_cases h6 : r.k = 6
      · have d6 : (r.k == 6) = true := by rw [beq_iff_eq]; exact h6
        have bd := HBD.out
        rw [Wr.body, if_neg h1, if_neg h2, if_neg h3, if_neg h4, if_pos h6] at bd
        have Q := refNum7_at w1 w0.heap.size A1 (n + 1) c1 _ hB1 hle (by omega) (r.m : Nat) 1 r.m 1 rfl rfl (by omega)
        rw [bes_one, ← bd] at Q
        have HBD' := Lib.hid bd
        have hmd := htv.flat.md
        have hdd := htv.flat.dd
        unfold maxLen at hdd
        clear bd
        clear h1 h2 h3 h4 h6 HBD
        go_wp2_with fail
        (with_reducible refine Q.mono ?_)
        rintro e w2 ⟨A2, c2, rfl, hB2, hG2⟩
        go_wp2
        go_meet
        exact ⟨A2, _, c2, rfl, rfl, hB2, hG2⟩
      have d6 : (r.k == 6) = false := by rw [beq_eq_false_iff_ne]; exact h6
      by_cases h9 : r.k = 9
      · have d9 : (r.k == 9) = true := by rw [beq_iff_eq]; exact h9
        have bd := HBD.out
        rw [Wr.body, if_neg h1, if_neg h2, if_neg h3, if_neg h4, if_neg h6, if_pos h9] at bd
        subst bd
        clear h1 h2 h3 h4 h6 h9 HBD
        have hs := Ok.bytes htv hok
        go_upto_region 19 with fail
        have Ld := L1.drew
        have Bd := hB1.drew
        clear y0 y1 y2 y3 y4 y5 y6
        go_region_held3 (fun w' => w'.cell? ⟨w.heap.size, 5, none⟩ = some (.string r.s))
          (first | with_reducible exact Ld.bx.at.c5 | with_reducible exact La.bx.at.c5 | exact Lb.bx.at.c5)
          (first
            | (go_at_call 37; have Q := refNum7_at w1.drew w0.heap.size A1 (n + 1) c1 _ Bd hle (by omega) (IntKind.u64.wrap (r.s.size : Int)) 2 r.s.size 2 (by rw [IntKind.wrap_u64]; omega) rfl (by omega); (with_reducible refine Q.mono ?_); clear Q; rintro e v1 ⟨A2, c2, rfl, B2, G2⟩; have La := Ld.grow G2; rw [Wr.bes_len] at B2 ⊢; obtain ⟨A3, c3, v2, hrun, B3, G3⟩ := B2.text (Nat.le_trans hle G2.g.size) r.s (by omega); have HR := Lib.hid hrun; have Lb := La.grow G3; have G4 := ((Gr.refl w1 A1).drew.trans G2).trans G3; clear Bd B2 hrun)
            | (refine step_app2 rfl _ _ 31 9 rfl _ _ _ rfl rfl HR.out ?_))
        go_wp2
        go_meet
        refine ⟨A3, _, c3, rfl, by rw [List.length_append, Wr.bes_len, Wr.txt_len]; omega, by rw [← List.append_assoc]; exact B3, G4⟩
      have d9 : (r.k == 9) = false := by rw [beq_eq_false_iff_ne]; exact h9
      have bd := HBD.out
      rw [Wr.body, if_neg h1, if_neg h2, if_neg h3, if_neg h4, if_neg h6, if_neg h9] at bd
      subst bd
      clear h1 h2 h3 h4 h6 h9 HBD
      go_wp2
      go_meet
      exact ⟨A1, _, c1, rfl, rfl, by simpa using hB1, Gr.refl _ _⟩
    obtain ⟨A2, N, c2, rfl, hN, hB2, hG2⟩ := hcut
    have L2 := L1.grow hG2
    have G2 := G1.trans hG2
    have hts : TVs w0 r.B r.m r.d ks := htv.args
    have hkl := Lib.hid hts.len
    have hmd := htv.flat.md
    have hdd := htv.flat.dd
    unfold maxLen at hdd
    have HN := Lib.hid hN
    have HE := Lib.hid henc
    have HL := Lib.hid hlen
    clear y0 y1 y2 y3 y4 y5 y6 L1 G1 hB1 hG2 hN henc hlen hle hsW hW
    go_wp2_with fail
    go_loopw [0, 6] (fun b i w' => ∃ (j c' n' : Nat) (A' : Option Addr), j ≤ r.m ∧ n' = N + (Wr.encs (ks.take j)).length ∧ i = .int .i64 (j : Int) ∧ b = .slice A' n' c' ∧ Bo w' w0.heap.size A' n' c' (l ++ [(r.k % 256).toNat] ++ BD ++ Wr.encs (ks.take j)) ∧ Gr w w' A A' ∧ Lw w r w' A') (fun _ i _ => r.m - (intOf i).toNat)
    case atStart => exact ⟨0, c2, N, A2, Nat.zero_le _, rfl, rfl, rfl, by simpa [Wr.encs] using hB2, G2, L2⟩
    case round =>
      clear hB2 G2 L2
      obtain ⟨j, c', n', A', hj, hn', rfl, rfl, hB', hG, Lj⟩ := hrel
      have HN' := Lib.hid hn'
      clear hn'
      have hbw := hb0.trans (hG.below hB hbase)
      have hle := hbw.size
      have y6 := Lj.bx.at.c6
      by_cases hjm : j < r.m
      · have hd1 : decide ((j : Int) < (r.m : Int)) = true := by rw [decide_eq_true_iff]; omega
        obtain ⟨b, o, r', t', e, hlt, h7, het, htv'⟩ := hts.get j hjm
        have hmem := List.mem_of_getElem? het
        have h7' := h7.below hbw hlt
        have hst := Wr.encs_take het
        have hlt2 := Wr.encs_le ks (j + 1)
        rw [hst, List.length_append] at hlt2
        have Q := IH.out t' hmem wr w0 r' htv' (Ok.kids (t := .mk k' nn g' l' u' s' ks) hok hmem) A' n' c' _ hB' hbw (by have := HN'.out; have := HN.out; have := HE.out; have := HL.out; omega)
        have hst' := Lib.hid hst
        rw [e] at y6
        clear e
        have x0 := h7'.c0; have x1 := h7'.c1; have x2 := h7'.c2; have x3 := h7'.c3; have x4 := h7'.c4; have x5 := h7'.c5; have x6 := h7'.c6
        clear hst hB' hlt2
        go_wp2_with fail
        (with_reducible refine Q.mono ?_)
        rintro e w2 ⟨A3, c3, rfl, hB3, hG3⟩
        clear x0 x1 x2 x3 x4 x5 x6 y6
        have HB3 := Lib.hid hB3
        have L3 := Lj.grow hG3
        clear hB3 Lj
        go_wp2
        exact ⟨⟨j + 1, c3, _, A3, by omega, by rw [hst'.out, List.length_append]; have := HN'.out; omega, by go_num, rfl, by rw [hst'.out, ← List.append_assoc]; exact HB3.out, hG.trans hG3, L3⟩, by simp [intOf]; omega⟩
      · have hd1 : decide ((j : Int) < (r.m : Int)) = false := by rw [decide_eq_false_iff_not]; omega
        have e : j = r.m := by omega
        go_wp2_with fail
        go_ret
        have e2 : ks.take j = ks := List.take_of_length_le (by have := hkl.out; omega)
        rw [e2] at hB'
        have e3 := HN'.out
        rw [e2] at e3
        have e4 : n + (Wr.enc (.mk k' nn g' l' u' s' ks)).length = n' := by have := HE.out; have := HN.out; omega
        have e5 : Wr.enc (.mk k' nn g' l' u' s' ks) = [(r.k % 256).toNat] ++ BD ++ Wr.encs ks := by
          rw [Wr.enc_eq, HBD.out, show (Tm.mk k' nn g' l' u' s' ks).args.length = r.m from htv.len, htv.kind, htv.num, htv.neg, htv.bits, htv.bytes]
          simp [Tm.mag, Tm.args]
        refine ⟨A', c', ?_, ?_, hG⟩
        · rw [e4]; rfl
        · rw [e4, e5]; simpa using hB'
end Go.Proofs.Ytomohdfcggghoaa

namespace Go.Proofs.Ytomohdfcggghoaa
open Go.RowKit

set_option maxRecDepth 100000 in
set_option maxHeartbeats 1000000 in
theorem refLay_yes (w : World) (r : TR) (t : Tm) (h : TV w r t) (ho : t.Ok) (hm : t.mayB = true) : Calls Try.prog 10 #[.agg #[.int .i64 r.k, .int .i64 r.n, .bool r.g, .slice r.A r.ln r.lc, .int .u64 r.u, .string r.s, .slice r.B r.m r.d]] w (LyY w t) := by
  have I := BxI.new h
  have hsz := (Wr.may_size hm).2
  have hen := Wr.enc_short t (Wr.may_size hm).1
  go_enter Try.func10, Try.ntmps10
  go_wp2_with fail
  generalize w.alloc (.cells #[.int .i64 r.k, .int .i64 r.n, .bool r.g, .slice r.A r.ln r.lc, .int .u64 r.u, .string r.s, .slice r.B r.m r.d] 28) = W at *
  refine (refMayT_any W r t I.tv ho).mono ?_
  rw [hm]
  rintro e w1 ⟨rfl, hb1⟩
  have I1 := I.below hb1
  clear I
  have y0 := I1.bx.at.c0; have y1 := I1.bx.at.c1; have y2 := I1.bx.at.c2; have y3 := I1.bx.at.c3; have y4 := I1.bx.at.c4; have y5 := I1.bx.at.c5; have y6 := I1.bx.at.c6
  have Q := refLay_any t w1 w r h ho none 0 0 [] (Bo.nil _ _) I1.be (by omega)
  go_wp2_with fail
  (with_reducible refine Q.mono ?_)
  rintro e w2 ⟨A, c, rfl, hB, hG⟩
  rw [List.nil_append, Nat.zero_add] at hB
  rw [Nat.zero_add]
  clear y0 y1 y2 y3 y4 y5 y6
  go_wp2
  go_ret2
  exact ⟨A, c, rfl, hB, I1.be.trans (hG.below (Bo.nil _ _) I1.be.size)⟩

set_option maxRecDepth 100000 in
set_option maxHeartbeats 1000000 in
theorem refLay_no (w : World) (r : TR) (t : Tm) (h : TV w r t) (ho : t.Ok) (hm : t.mayB = false) : Calls Try.prog 10 #[.agg #[.int .i64 r.k, .int .i64 r.n, .bool r.g, .slice r.A r.ln r.lc, .int .u64 r.u, .string r.s, .slice r.B r.m r.d]] w (LyN w) := by
  have I := BxI.new h
  go_enter Try.func10, Try.ntmps10
  go_wp2_with fail
  generalize w.alloc (.cells #[.int .i64 r.k, .int .i64 r.n, .bool r.g, .slice r.A r.ln r.lc, .int .u64 r.u, .string r.s, .slice r.B r.m r.d] 28) = W at *
  refine (refMayT_any W r t I.tv ho).mono ?_
  rw [hm]
  rintro e w1 ⟨rfl, hb1⟩
  go_wp2
  go_ret2
  exact ⟨rfl, (I.below hb1).be⟩
end Go.Proofs.Ytomohdfcggghoaa

namespace Go.Proofs.Ytomohdfcggghoaa
open Go.RowKit

set_option maxRecDepth 100000 in
/-- append(row, limbs...): what it changes is the row alone. -/
theorem append_bgrown (w : World) (base : Nat) (A0 : Option Addr) (n0 c0 : Nat) (l0 : List Nat) (hown : Bo w base A0 n0 c0 l0) (ad : Addr) (n c : Nat) (l : List Nat) (h : By w (some ad) n c l) (hn : n0 + n ≤ 10000000) (hbase : base ≤ w.heap.size) (ty : TypeId) :
    ∃ v' w', (Builtin.append_ #[31, 31] ty #[.slice A0 n0 c0, .slice (some ad) n c]).run Try.prog w = .ok v' w' ∧ w.grownBy w' (Value.slice A0 n0 c0).ownBlock := by
  obtain ⟨i, hi, hz, hs, hb⟩ := info_byte'
  have hcells : ∀ j u, (byVs l)[j]? = some u → w.cell? (ad.add j) = some u := by
    intro j u hu
    have hj : j < l.length := by
      rcases Nat.lt_or_ge j l.length with hj | hj
      · exact hj
      · rw [List.getElem?_eq_none (by rw [byVs_len]; exact hj)] at hu; cases hu
    obtain ⟨b, o, e, _, hc⟩ := h.2.2.2 (by have := h.1; omega)
    injection e with e
    subst e
    rw [byVs_get hj] at hu
    injection hu with hu
    subst hu
    have hadd : (⟨b, o, none⟩ : Addr).add j = ⟨b, o + j, none⟩ := by unfold Addr.add; split <;> simp_all
    rw [hadd]
    exact hc j (by have := h.1; omega)
  have h1 : ∀ u ∈ byVs l, u.oneCell' = true := by
    intro u hu
    simp only [byVs, List.mem_map] at hu
    obtain ⟨x, _, rfl⟩ := hu
    rfl
  obtain ⟨v', w', hrun, _, hg, _⟩ := run_append_own (P := Try.prog) w base 31 ty 5 i (.int .u8 0) 1 1 und_bytes hi hz hs hb rfl (by decide) (.slice A0 n0 c0) n0 (byVs l0) hown.2.2 ad n c (byVs l) (by rw [byVs_len, h.1]; omega) hcells h1 (by unfold maxLen; omega) (by omega) hbase
  exact ⟨v', w', hrun, hg⟩

/-- Block g is a row of limbs of a given room, none of them frozen. -/
def Rb (w : World) (g N : Nat) (cs : Array Value) : Prop := w.heap[g]? = some (.cells cs 5 (0, 0)) ∧ cs.size = N
section
variable {w w' : World} {g N : Nat} {cs : Array Value}
set_option maxRecDepth 100000 in
theorem Rb.lt (h : Rb w g N cs) : g < w.heap.size := (Array.getElem?_eq_some_iff.1 h.1).1
set_option maxRecDepth 100000 in
theorem Rb.cell (h : Rb w g N cs) (i : Nat) : w.cell? ⟨g, i, none⟩ = cs[i]? := cell_of_row w g i cs _ (0, 0) h.1
set_option maxRecDepth 100000 in
theorem Rb.fz (h : Rb w g N cs) (i : Nat) : w.frozen? ⟨g, i, none⟩ = false := by have := h.1; simp [World.frozen?, this]
set_option maxRecDepth 100000 in
theorem Rb.some (h : Rb w g N cs) {i : Nat} (hi : i < N) : ∃ u, w.cell? ⟨g, i, none⟩ = some u := by
  rw [h.cell, Array.getElem?_eq_getElem (by rw [h.2]; exact hi)]
  exact ⟨_, rfl⟩
set_option maxRecDepth 100000 in
theorem Rb.set (h : Rb w g N cs) (i : Nat) (u : Value) : Rb (w.setCell ⟨g, i, none⟩ u) g N (cs.setIfInBounds i u) := by
  refine ⟨?_, by rw [Array.size_setIfInBounds]; exact h.2⟩
  have := h.1
  simp [World.setCell, Array.getElem?_modify, this]
set_option maxRecDepth 100000 in
theorem Rb.drewN (h : Rb w g N cs) (q : Nat) : Rb (w.drewN q) g N cs := h
end

/-- Bytes that are lent: behind them stand three marks. -/
def Bent (w : World) (g n : Nat) (l : List Nat) : Prop :=
  l.length = n ∧ Wr.Small l ∧ g < w.heap.size ∧ (∀ j, j < n → w.cell? ⟨g, j, none⟩ = some (.int .u8 (Lm.lg l j : Nat))) ∧ ∀ i, i < 3 → w.cell? ⟨g, n + i, none⟩ = some (.int .u8 119)
set_option maxRecDepth 100000 in
theorem Bent.raw {w : World} {g n : Nat} {l : List Nat} (h : Bent w g n l) (hn : n ≤ 1000000) : Rby w (some ⟨g, 0, none⟩) n (n + 3) l :=
  ⟨⟨h.1, by omega, h.2.1, fun _ => ⟨g, 0, rfl, h.2.2.1, fun j hj => by rw [Nat.zero_add]; exact h.2.2.2.1 j hj⟩⟩, by unfold maxLen; omega⟩
set_option maxRecDepth 100000 in
theorem Bent.keep {w w' : World} {g n : Nat} {l : List Nat} (h : Bent w g n l) (hs : w.heap.size ≤ w'.heap.size) (hb : w'.heap[g]? = w.heap[g]?) : Bent w' g n l :=
  ⟨h.1, h.2.1, Nat.lt_of_lt_of_le h.2.2.1 hs, fun j hj => (World.cell?_of_block (w := w) (a := ⟨g, j, none⟩) hb).trans (h.2.2.2.1 j hj), fun i hi => (World.cell?_of_block (w := w) (a := ⟨g, n + i, none⟩) hb).trans (h.2.2.2.2 i hi)⟩
set_option maxRecDepth 100000 in
theorem Bent.below {w w' : World} {g n : Nat} {l : List Nat} (h : Bent w g n l) (hb : Below w.heap.size w w') : Bent w' g n l := h.keep hb.size (hb.block g h.2.2.1)

/-- What LendBytes leaves. -/
def BendPost (w : World) (n : Nat) (l : List Nat) (e : Ending) (w' : World) : Prop :=
  ∃ g, e = .returned (.slice (some ⟨g, 0, none⟩) n (n + 3)) ∧ Bent w' g n l ∧ w.heap.size ≤ g ∧ Below w.heap.size w w' ∧ ∃ cs, Rb w' g (n + 3) cs

set_option maxRecDepth 100000 in
theorem make_bend (n : Nat) (hn : n ≤ 1000000) (w : World) :
    (Instr.makeSlice 31 (.int .i64 0) (.int .i64 ((n : Int) + 3))).run Try.prog w = .ok (.slice (some ⟨w.heap.size, 0, none⟩) 0 (n + 3)) (w.alloc (.cells (brr (List.replicate (n + 3) 0)) 5)) := by
  obtain ⟨i, hi, hz, hs, hb⟩ := info_byte'
  have h := run_make (P := Try.prog) w 31 5 i (.int .u8 0) und_bytes hi hz .i64 .i64 0 ((n : Int) + 3) (by omega) (by omega) (by rw [hb]; omega) (by omega)
  rw [hs] at h
  have e : ((n : Int) + 3).toNat = n + 3 := by omega
  rw [e] at h
  simp only [Int.toNat_zero] at h
  rw [h, brr_made]

set_option maxRecDepth 100000 in
/-- The append of LendBytes: it fits. -/
theorem append_bend (w : World) (g n : Nat) (hg : Bo w w.heap.size none 0 0 [] → Rb w g (n + 3) (brr (List.replicate (n + 3) 0))) (A : Option Addr) (c : Nat) (l : List Nat) (h : By w A n c l) (hn : n ≤ 1000000) (ty : TypeId) :
    ∃ w' cs, (Builtin.append_ #[31, 31] ty #[.slice (some ⟨g, 0, none⟩) 0 (n + 3), .slice A n c]).run Try.prog w = .ok (.slice (some ⟨g, 0, none⟩) n (n + 3)) w' ∧ Rb w' g (n + 3) cs ∧ (∀ j, j < n → cs[j]? = some (.int .u8 (Lm.lg l j : Nat))) ∧ w.grownBy w' (some g) := by
  have hr := hg (Bo.nil _ _)
  obtain ⟨i, hi, hz, hs, hb⟩ := info_byte'
  have hown : w.ownsRow g 5 1 (.slice (some ⟨g, 0, none⟩) 0 (n + 3)) 0 [] := ⟨by simp, .inr ⟨g, n + 3, _, rfl, Nat.le_refl _, hr.1, Nat.zero_le _, by unfold maxLen; omega, by rw [hr.2]; omega, by simp⟩⟩
  cases A with
  | none =>
    have h0 : n = 0 := by
      rcases Nat.eq_zero_or_pos n with h0 | h0
      · exact h0
      · obtain ⟨b, o, e, _⟩ := h.2.2.2 h0
        cases e
    subst h0
    refine ⟨w, _, ?_, hr, fun j hj => by omega, World.grownBy.refl _ _⟩
    simp [Builtin.append_, run_underlying und_bytes, sizeOf, typeInfo, hi, Builtin.lenOf, Builtin.firstCells, storeCells]
  | some ad =>
    have hcells : ∀ j u, (byVs l)[j]? = some u → w.cell? (ad.add j) = some u := by
      intro j u hu
      have hj : j < l.length := by
        rcases Nat.lt_or_ge j l.length with hj | hj
        · exact hj
        · rw [List.getElem?_eq_none (by rw [byVs_len]; exact hj)] at hu; cases hu
      obtain ⟨b, o, e, _, hc⟩ := h.2.2.2 (by have := h.1; omega)
      injection e with e
      subst e
      rw [byVs_get hj] at hu
      injection hu with hu
      subst hu
      have hadd : (⟨b, o, none⟩ : Addr).add j = ⟨b, o + j, none⟩ := by unfold Addr.add; split <;> simp_all
      rw [hadd]
      exact hc j (by have := h.1; omega)
    have h1 : ∀ u ∈ byVs l, u.oneCell' = true := by
      intro u hu
      simp only [byVs, List.mem_map] at hu
      obtain ⟨x, _, rfl⟩ := hu
      rfl
    obtain ⟨w', hrun, ho, hgr⟩ := run_append_fits (P := Try.prog) w g 31 ty 5 i 1 und_bytes hi hs g 0 (n + 3) [] hown ad n c (byVs l) (by rw [byVs_len, h.1]; omega) hcells h1 (by omega)
    rw [Nat.zero_add] at hrun ho
    rcases ho.2 with ⟨hv, _⟩ | ⟨g', cap, cur, hv, _, hh, _, _, hsz, htk⟩
    · cases hv
    · injection hv with hA _ hc
      injection hA with hA
      injection hA with hA
      subst hA hc
      refine ⟨w', cur, hrun, ⟨hh, by omega⟩, fun j hj => ?_, hgr⟩
      have e : (cur.toList.take (n * 1))[j]? = (byVs l)[j]? := by rw [htk, List.nil_append]
      rw [List.getElem?_take_of_lt (by omega), byVs_get (by rw [h.1]; exact hj)] at e
      simpa using e

set_option maxRecDepth 100000 in
set_option maxHeartbeats 100000000 in
theorem bend_any (w : World) (A : Option Addr) (n c : Nat) (l : List Nat) (h : Rby w A n c l) (hn : n ≤ 1000000) :
    Calls Try.prog 14 #[.slice A n c] w (BendPost w n l) := by
  have hmk := fun w => make_bend n hn w
  have hr0 : Rb (w.alloc (.cells (brr (List.replicate (n + 3) 0)) 5)) w.heap.size (n + 3) (brr (List.replicate (n + 3) 0)) := ⟨heap_alloc_new w _, by rw [brr_size]; simp⟩
  obtain ⟨w1, cs1, hrun, hR1, hc1, hg1⟩ := append_bend (w.alloc (.cells (brr (List.replicate (n + 3) 0)) 5)) w.heap.size n (fun _ => hr0) A c l (h.1.alloc _) hn 31
  have hR := Lib.hid hrun
  have hb1 : Below w.heap.size w w1 := ((Below.refl w.heap.size w).alloc (Nat.le_refl _) _).grown hg1 (by simp) (fun k hk => by injection hk with hk; omega)
  clear hrun hr0 hg1
  have hne : (n + 3 = n) = False := by simp
  have e0 : (0 : Int) ≤ (n : Int) := by omega
  go_enter Try.func14, Try.ntmps14
  go_wp2_with (at_builtin; refine wpList_append_run rfl _ _ _ rfl _ _ _ rfl rfl hR.out ?_)
  rw [show n + 3 - n = 3 from by omega]
  go_loopw [5] (fun i w' => ∃ (j : Nat) (cs : Array Value), j ≤ 3 ∧ i = .int .i64 (j : Int) ∧ Rb w' w.heap.size (n + 3) cs ∧ Hid (∀ t, t < n → cs[t]? = some (.int .u8 (Lm.lg l t : Nat))) ∧ Hid (∀ t, t < j → cs[n + t]? = some (.int .u8 119)) ∧ Below w.heap.size w w') (fun i _ => 3 - (intOf i).toNat)
  case atStart => exact ⟨0, cs1, by omega, rfl, hR1, hc1, fun t ht => by omega, hb1⟩
  case round =>
    obtain ⟨j, cs, hj, rfl, hRw, hcs, hms, hbl⟩ := hrel
    by_cases h3 : j < 3
    · obtain ⟨u, hu⟩ := hRw.some (i := n + j) (by omega)
      have hf := hRw.fz (n + j)
      go_wp2
      exact ⟨⟨j + 1, _, by omega, by go_num, hRw.set (n + j) _, fun t ht => by rw [Array.getElem?_setIfInBounds_ne (by omega)]; exact hcs.out t ht, fun t ht => by
        by_cases e : t = j
        · subst e
          rw [Array.getElem?_setIfInBounds_self_of_lt (by rw [hRw.2]; omega)]
        · rw [Array.getElem?_setIfInBounds_ne (by omega)]
          exact hms.out t (by omega), hbl.setCell (p := ⟨w.heap.size, n + j, none⟩) (Nat.le_refl _) _⟩, by simp [intOf]; omega⟩
    · have hj3 : j = 3 := by omega
      subst hj3
      go_wp2
      go_ret
      exact ⟨w.heap.size, rfl, ⟨h.1.1, h.1.2.2.1, hRw.lt, fun t ht => by rw [hRw.cell]; exact hcs.out t ht, fun t ht => by rw [hRw.cell]; exact hms.out t ht⟩, Nat.le_refl _, hbl, cs, hRw⟩

set_option maxRecDepth 100000 in
theorem append_rb (w : World) (g n N : Nat) (cs : Array Value) (hr : Rb w g N cs) (hn : n ≤ N) (hN : N ≤ maxLen) (hn' : n ≤ 1000000) (ty : TypeId) :
    ∃ v' w', (Builtin.append_ #[31, 31] ty #[.slice (some ⟨g, 0, none⟩) n N, .slice (some ⟨w.heap.size, 0, none⟩) 1 1]).run Try.prog (w.alloc (.cells #[.int .u8 238] 5)) = .ok v' w' ∧ w.grownBy w' (some g) := by
  obtain ⟨i, hi, hz, hs, hb⟩ := info_byte'
  have hr' : Rb (w.alloc (.cells #[.int .u8 238] 5)) g N cs := ⟨(Below.heap_alloc w _ g hr.lt).trans hr.1, hr.2⟩
  have hown : (w.alloc (.cells #[.int .u8 238] 5)).ownsRow g 5 1 (.slice (some ⟨g, 0, none⟩) n N) n (cs.toList.take n) := ⟨by rw [List.length_take, Array.length_toList, hr.2]; omega, .inr ⟨g, N, cs, rfl, Nat.le_refl _, hr'.1, hn, hN, by rw [hr.2]; omega, by rw [Nat.mul_one]⟩⟩
  obtain ⟨v', w', hrun, _, hg, _⟩ := run_append_own (P := Try.prog) (w.alloc (.cells #[.int .u8 238] 5)) g 31 ty 5 i (.int .u8 0) 1 1 und_bytes hi hz hs hb rfl (by decide) (.slice (some ⟨g, 0, none⟩) n N) n (cs.toList.take n) hown ⟨w.heap.size, 0, none⟩ 1 1 [.int .u8 238] rfl (by
    intro j u hu
    rcases j with _ | j
    · simp at hu
      subst hu
      show (w.alloc _).cell? ⟨w.heap.size, 0, none⟩ = _
      rw [World.cell?_alloc_at _ _ _ _ rfl]
      rfl
    · simp at hu) (by intro u hu; simp at hu; subst hu; rfl) (by unfold maxLen; omega) (by omega) (by have := hr'.lt; omega)
  refine ⟨v', w', hrun, ?_⟩
  have ha := World.grownBy_alloc w (.cells #[.int .u8 238] 5) (some g)
  exact ⟨hg.os.trans ha.os, hg.tape.trans ha.tape, hg.output.trans ha.output, Nat.le_trans ha.size hg.size, fun k hk hne => (hg.block k (Nat.lt_of_lt_of_le hk ha.size) hne).trans (ha.block k hk hne)⟩
set_option maxRecDepth 100000 in
set_option maxHeartbeats 100000000 in
theorem overB_some (w : World) (g n c : Nat) (cs0 : Array Value) (h : Rb w g c cs0) (hnc : n ≤ c) (hc : c ≤ maxLen) (hn : n ≤ 1000000) :
    Calls Try.prog 13 #[.slice (some ⟨g, 0, none⟩) n c] w fun e w' => e = .returned (.tuple #[]) ∧ w.grownBy w' (some g) := by
  go_enter Try.func13, Try.ntmps13
  go_wp2
  go_loopw [2] (fun i w' => ∃ (j : Nat) (cs : Array Value), j ≤ n ∧ i = .int .i64 (j : Int) ∧ Rb w' g c cs ∧ w.grownBy w' (some g)) (fun i _ => n - (intOf i).toNat)
  case atStart => exact ⟨0, cs0, by omega, rfl, h, World.grownBy.refl _ _⟩
  case round =>
    obtain ⟨j, cs, hj, rfl, hRw, hgr⟩ := hrel
    by_cases h3 : j < n
    · obtain ⟨u, hu⟩ := hRw.some (i := j) (by omega)
      have hf := hRw.fz j
      go_wp2
      exact ⟨⟨j + 1, _, by omega, by go_num, hRw.set j _, grown_set hgr⟩, by simp [intOf]; omega⟩
    · obtain ⟨v', w1, hrun, hg1⟩ := append_rb wr g n c cs hRw hnc hc hn 31
      have hR := Lib.hid hrun
      clear hrun
      go_wp2_with (at_builtin; refine wpList_append_run rfl _ _ _ rfl _ _ _ rfl rfl hR.out ?_)
      go_end0
      exact ⟨rfl, grown_tr hgr hg1⟩

set_option maxRecDepth 100000 in
set_option maxHeartbeats 100000000 in
theorem overB_none (w : World) (c : Nat) (hc : c = 0) :
    Calls Try.prog 13 #[.slice none 0 c] w fun e w' => e = .returned (.tuple #[]) ∧ w.grownBy w' none := by
  subst hc
  obtain ⟨v', w1, hrun, hg1⟩ := append_bgrown (w.alloc (.cells #[.int .u8 238] 5)) 0 none 0 0 [] (Bo.nil _ _) ⟨w.heap.size, 0, none⟩ 1 1 [238] (By.new w [238] (by intro x hx; simp at hx; omega)) (by omega) (Nat.zero_le _) 31
  have hR := Lib.hid hrun
  clear hrun
  go_enter Try.func13, Try.ntmps13
  go_wp2
  go_loop [2] (fun i => i = .int .i64 0) (fun _ => 0)
  case atStart => rfl
  case round =>
    subst hrel
    go_wp2_with (at_builtin; refine wpList_append_run rfl _ _ _ rfl _ _ _ rfl rfl hR.out ?_)
    go_end0
    exact ⟨rfl, grown_tr (World.grownBy_alloc w _ none) hg1⟩

set_option maxRecDepth 100000 in
set_option maxHeartbeats 100000000 in
theorem keptB_any (w : World) (g n : Nat) (l : List Nat) (A : Option Addr) (c : Nat) (hl : Bent w g n l) (hn : n ≤ 1000000) (h : Rby w A n c l) :
    Calls Try.prog 17 #[.slice (some ⟨g, 0, none⟩) n (n + 3), .slice A n c] w fun e w' => e = .returned (.bool true) ∧ Below w.heap.size w w' := by
  have hne : (n + 3 = n) = False := by simp
  have hlr := hl.raw hn
  go_enter Try.func17, Try.ntmps17
  go_wp2
  rw [show n + 3 - n = 3 from by omega]
  go_loop [6] (fun i => ∃ j : Nat, j ≤ 3 ∧ i = .int .i64 (j : Int)) (fun i => 3 - (intOf i).toNat)
  case atStart => exact ⟨0, by omega, rfl⟩
  case round =>
    obtain ⟨j, hj, rfl⟩ := hrel
    by_cases h3 : j < 3
    · have hc := hl.2.2.2.2 j h3
      go_wp2
      go_round
      case rel => exact ⟨j + 1, by omega, by go_num⟩
      case measure => simp [intOf]; omega
    · go_wp2_with fail
      refine (sameBytes_any w _ A n (n + 3) n c l l hlr.1 hlr.2 h.1 h.2).mono ?_
      rw [decide_eq_true rfl]
      rintro e w' ⟨rfl, q, rfl⟩
      go_wp2
      go_ret
      exact ⟨rfl, (Below.refl _ _).drewN' q⟩
end Go.Proofs.Ytomohdfcggghoaa

namespace Go.Proofs.Ytomohdfcggghoaa
open Go.RowKit

set_option maxRecDepth 100000 in
theorem Bo.grown {w w' : World} {base n c g : Nat} {A : Option Addr} {l : List Nat} (h : Bo w base A n c l) (k : w.grownBy w' (some g)) (hg : g < base) : Bo w' base A n c l := by
  refine ⟨h.1, h.2.1, h.2.2.1, ?_⟩
  rcases h.2.2.2 with h0 | ⟨b, cap, cur, hv, hbg, hh, rest⟩
  · exact .inl h0
  · exact .inr ⟨b, cap, cur, hv, hbg, blk_keep hh k (by omega), rest⟩
set_option maxRecDepth 100000 in
/-- A row of one's own that is not empty: its block. -/
theorem Bo.some {w : World} {base n c : Nat} {A : Option Addr} {l : List Nat} (h : Bo w base A n c l) (hn : 0 < n) : ∃ g cs, A = some ⟨g, 0, none⟩ ∧ base ≤ g ∧ g < w.heap.size ∧ Rb w g c cs := by
  rcases h.2.2.2 with ⟨_, h0⟩ | ⟨b, cap, cur, hv, hbg, hh, _, _, hs, _⟩
  · omega
  · injection hv with hA _ hc
    subst hA hc
    exact ⟨b, cur, rfl, hbg, (Array.getElem?_eq_some_iff.1 hh).1, hh, by omega⟩
set_option maxRecDepth 100000 in
theorem num7_any (z : Int) (w : World) : Calls Try.prog 12 #[.int .i64 z] w fun e w' => e = .returned (.int .i64 z) ∧ w = w' := by
  go_enter Try.func12, Try.ntmps12
  go_wp2
  go_ret
  exact ⟨rfl, rfl⟩
set_option maxRecDepth 100000 in
theorem great_ok7 {t : Tm} {most : Int} (h : greatB [t] most = false) : t.Ok := (greatB_no h).2 t (by simp)
/-- The variable that holds the term. -/
structure Vb (w : World) (r : TR) (W : World) : Prop where
  bx : Box7 W w.heap.size r
  be : Below w.heap.size w W
set_option maxRecDepth 100000 in
theorem Vb.below {w : World} {r : TR} {W W' : World} (h : Vb w r W) (hb : Below W.heap.size W W') : Vb w r W' := ⟨h.bx.below hb, h.be.trans (hb.mono h.be.size)⟩
set_option maxRecDepth 100000 in
theorem Vb.grown {w : World} {r : TR} {W W' : World} {g : Nat} (h : Vb w r W) (k : W.grownBy W' (some g)) (hg : w.heap.size < g) : Vb w r W' :=
  ⟨blk_keep h.bx k (by omega), h.be.grown k h.be.size (fun b hb => by cases hb; omega)⟩

set_option maxRecDepth 100000 in
set_option maxRecDepth 100000 in
set_option maxHeartbeats 8000000 in
theorem wireLays_walk (w : World) (r : TR) (t : Tm) (h : TV w r t) :
    Calls Try.prog 3 #[.agg #[.int .i64 r.k, .int .i64 r.n, .bool r.g, .slice r.A r.ln r.lc, .int .u64 r.u, .string r.s, .slice r.B r.m r.d]] w fun e w' => e = .returned (.bool true) ∧ Below w.heap.size w w' := by
  have I : Vb w r (w.alloc (.cells #[.int .i64 r.k, .int .i64 r.n, .bool r.g, .slice r.A r.ln r.lc, .int .u64 r.u, .string r.s, .slice r.B r.m r.d] 28)) := ⟨Box7.new w r, (Below.refl _ _).alloc (Nat.le_refl _) _⟩
  go_enter Try.func3, Try.ntmps3
  go_wp2_with fail
  generalize w.alloc (.cells #[.int .i64 r.k, .int .i64 r.n, .bool r.g, .slice r.A r.ln r.lc, .int .u64 r.u, .string r.s, .slice r.B r.m r.d] 28) = W at *
  refine (greatT_any W r t (h.bel I.be) 500 (by omega) (by omega)).mono ?_
  rintro e w1 ⟨rfl, hb⟩
  have I1 := I.below hb
  clear I hb
  cases g1 : greatB [t] 500 with
  | true =>
    go_wp2_with fail
    refine (awake7 w1).mono ?_
    rintro e w2 ⟨rfl, hb⟩
    go_wp2
    go_ret
    exact ⟨rfl, (I1.below hb).be⟩
  | false =>
  have ok1 := great_ok7 g1
  clear g1
  cases gm : t.mayB with
  | false =>
    have y0 := I1.bx.at.c0; have y1 := I1.bx.at.c1; have y2 := I1.bx.at.c2; have y3 := I1.bx.at.c3; have y4 := I1.bx.at.c4; have y5 := I1.bx.at.c5; have y6 := I1.bx.at.c6
    go_wp2_with fail
    clear y0 y1 y2 y3 y4 y5 y6
    refine (lay_no w1 r t (h.bel I1.be) ok1 gm).mono ?_
    rintro e w2 ⟨rfl, hb⟩
    have I2 := I1.below hb
    clear I1 hb
    have y0 := I2.bx.at.c0; have y1 := I2.bx.at.c1; have y2 := I2.bx.at.c2; have y3 := I2.bx.at.c3; have y4 := I2.bx.at.c4; have y5 := I2.bx.at.c5; have y6 := I2.bx.at.c6
    go_wp2_with fail
    clear y0 y1 y2 y3 y4 y5 y6
    refine (refLay_no w2 r t (h.bel I2.be) ok1 gm).mono ?_
    rintro e w3 ⟨rfl, hb⟩
    have I3 := I2.below hb
    clear I2 hb
    go_wp2_with fail
    have Q := sameB_eq w3 none none 0 0 0 0 [] [] (By.nil _ _ _) (by decide) (By.nil _ _ _) (by decide) rfl
    (with_reducible refine Q.mono ?_)
    clear Q
    rintro e w4 ⟨rfl, hb⟩
    have I4 := I3.below hb
    clear I3 hb
    go_wp2_with fail
    refine (num7_any 2 w4).mono ?_
    rintro e w5 ⟨rfl, rfl⟩
    go_wp2_with fail
    refine (overB_none w4 0 rfl).mono ?_
    rintro e w6 ⟨rfl, hg⟩
    have hb : Below w4.heap.size w4 w6 := ⟨hg.os, hg.tape, hg.output, hg.size, fun k hk => hg.block k hk (by simp)⟩
    have I6 := I4.below hb
    clear I4 hb hg
    have y0 := I6.bx.at.c0; have y1 := I6.bx.at.c1; have y2 := I6.bx.at.c2; have y3 := I6.bx.at.c3; have y4 := I6.bx.at.c4; have y5 := I6.bx.at.c5; have y6 := I6.bx.at.c6
    go_wp2_with fail
    clear y0 y1 y2 y3 y4 y5 y6
    refine (lay_no w6 r t (h.bel I6.be) ok1 gm).mono ?_
    rintro e w7 ⟨rfl, hb⟩
    have I7 := I6.below hb
    clear I6 hb
    go_wp2_with fail
    have Q := sameB_eq w7 none none 0 0 0 0 [] [] (By.nil _ _ _) (by decide) (By.nil _ _ _) (by decide) rfl
    (with_reducible refine Q.mono ?_)
    clear Q
    rintro e w8 ⟨rfl, hb⟩
    have I8 := I7.below hb
    clear I7 hb
    go_wp2_with fail
    refine (awake7 w8).mono ?_
    rintro e w9 ⟨rfl, hb⟩
    go_wp2
    go_ret
    exact ⟨rfl, (I8.below hb).be⟩
  | true =>
    have sh := Wr.enc_short t (Wr.may_size gm).1
    have sz := (Wr.may_size gm).2
    have pos := Wr.enc_pos t
    have s1 := I1.bx.lt
    have y0 := I1.bx.at.c0; have y1 := I1.bx.at.c1; have y2 := I1.bx.at.c2; have y3 := I1.bx.at.c3; have y4 := I1.bx.at.c4; have y5 := I1.bx.at.c5; have y6 := I1.bx.at.c6
    go_wp2_with fail
    clear y0 y1 y2 y3 y4 y5 y6
    refine (lay_yes w1 r t (h.bel I1.be) ok1 gm).mono ?_
    rintro e w2 ⟨A1, c1, rfl, B1, hb⟩
    have I2 := I1.below hb
    clear I1 hb
    obtain ⟨ga, ca, e, hga, hgb, -⟩ := B1.some pos
    subst e
    have y0 := I2.bx.at.c0; have y1 := I2.bx.at.c1; have y2 := I2.bx.at.c2; have y3 := I2.bx.at.c3; have y4 := I2.bx.at.c4; have y5 := I2.bx.at.c5; have y6 := I2.bx.at.c6
    go_wp2_with fail
    clear y0 y1 y2 y3 y4 y5 y6
    refine (refLay_yes w2 r t (h.bel I2.be) ok1 gm).mono ?_
    rintro e w3 ⟨A2, c2, rfl, B2, hb⟩
    have I3 := I2.below hb
    have B1a := B1.below hb
    clear I2 hb B1
    go_wp2_with fail
    have Q := sameB_eq w3 _ A2 _ c1 _ c2 _ _ B1a.by B1a.cap' B2.by B2.cap' rfl
    (with_reducible refine Q.mono ?_)
    clear Q
    rintro e w4 ⟨rfl, hb⟩
    have I4 := I3.below hb
    have B1b := B1a.below hb
    have B2b := B2.below hb
    clear I3 hb B1a B2
    go_wp2_with fail
    refine (num7_any 0 w4).mono ?_
    rintro e w5 ⟨rfl, rfl⟩
    obtain ⟨gb, cs, eb, -, -, rb⟩ := B1b.some pos
    have e2 : gb = ga := by injection eb with eb; injection eb with eb; exact eb.symm
    rw [e2] at rb
    have capa := B1b.cap
    clear eb e2 B1b
    go_wp2_with fail
    refine (overB_some w4 ga _ c1 cs rb capa.1 capa.2 (by omega)).mono ?_
    rintro e w6 ⟨rfl, hg⟩
    have I6 := I4.grown hg (by omega)
    have B2c := B2b.grown hg hgb
    clear I4 hg B2b rb
    have y0 := I6.bx.at.c0; have y1 := I6.bx.at.c1; have y2 := I6.bx.at.c2; have y3 := I6.bx.at.c3; have y4 := I6.bx.at.c4; have y5 := I6.bx.at.c5; have y6 := I6.bx.at.c6
    go_wp2_with fail
    clear y0 y1 y2 y3 y4 y5 y6
    refine (lay_yes w6 r t (h.bel I6.be) ok1 gm).mono ?_
    rintro e w7 ⟨A3, c3, rfl, B3, hb⟩
    have I7 := I6.below hb
    have B2d := B2c.below hb
    clear I6 hb B2c
    go_wp2_with fail
    have Q := sameB_eq w7 A3 A2 _ c3 _ c2 _ _ B3.by B3.cap' B2d.by B2d.cap' rfl
    (with_reducible refine Q.mono ?_)
    clear Q
    rintro e w8 ⟨rfl, hb⟩
    have I8 := I7.below hb
    clear I7 hb B3 B2d
    go_wp2_with fail
    refine (awake7 w8).mono ?_
    rintro e w9 ⟨rfl, hb⟩
    go_wp2
    go_ret
    exact ⟨rfl, (I8.below hb).be⟩
end Go.Proofs.Ytomohdfcggghoaa
