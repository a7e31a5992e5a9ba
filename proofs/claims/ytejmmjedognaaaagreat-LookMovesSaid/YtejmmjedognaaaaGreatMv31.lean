/-
  PACKAGE look: weight.
  PACKAGE term: Int, Atom.
  THE REFERENCE's OfNum, Int.
  PACKAGE fresh: left; a look-up in no map.
-/
import Derived.Test.YtejmmjedognaaaaGreatMv30
import Derived.Test.YtejmmjedognaaaaGreatMv26
import Derived.Deep.RegionLaw
namespace Go.Proofs.YtejmmjedognaaaaGreat
open Go.RowKit
open St

section
variable (gs : List Frg) (S : List Slt) (mv : Value) (SA : Option Addr) (sm sc : Nat) (kv : Value)
set_option maxRecDepth 100000 in
theorem wt_tag {x : Int} (h45 : x % 8 = 4 ∨ x % 8 = 5) : (x % 8 != 4) = false ∨ ((x % 8 != 4) = true ∧ (x % 8 != 5) = false) := by
  rcases h45 with e | e
  · exact .inl (by rw [e]; rfl)
  · exact .inr ⟨by rw [e]; rfl, by rw [e]; rfl⟩

set_option maxRecDepth 100000 in
theorem wf_u64' {x : Int} (h : Wd x) : (Lit.int .u64 x).wf = true := by
  unfold Wd at h
  exact WalkArith.wf_u64 (by omega)
set_option maxRecDepth 100000 in
theorem kn_some {gs : List Frg} {S : List Slt} {w : World} {b n : Nat} (h : KN gs S w (.map (some b)) n) : KnM gs S w b n := by
  rcases h with h | ⟨b', e, h⟩
  · cases h
  · cases e; exact h
set_option maxRecDepth 100000 in
theorem kn_put {gs : List Frg} {S : List Slt} {w' : World} {b n' : Nat} {D : DataW Unit} {x : Int} {t : Tm} (htd : Maps.Tidy D) (hkn : ∀ x : Int, Maps.has D (.int .u64 x) = true → ∃ t, Rd gs S x t ∧ t.wt ≤ 300 ∧ D.atKey (.int .u64 x) (.lit (.int .i64 0)) = .lit (.int .i64 (t.wt : Int))) (hrt : Rd gs S x t) (h3 : t.wt ≤ 300)
    (ho : w'.ownsMap Tryz.prog 30 (plainElem Tryz.prog 3) b n' (D.put (.int .u64 x) (.lit (.int .i64 (t.wt : Int))))) : KnM gs S w' b n' := by
  have hk : WideAt.IsKeyLit (.int .u64 x) := trivial
  refine ⟨_, ho, htd.put hk _, fun y hy => ?_⟩
  by_cases e : y = x
  · subst e
    exact ⟨t, hrt, h3, Maps.atKey_put_same htd.isMap hk _ _⟩
  · have hne : (Lit.int .u64 y) ≠ .int .u64 x := fun e2 => e (by injection e2)
    rw [Maps.has_put_other hne] at hy
    obtain ⟨t', h1, h4, h2⟩ := hkn y hy
    exact ⟨t', h1, h4, by rw [Maps.atKey_put_other hne, h2]⟩
set_option maxRecDepth 100000 in
theorem look_nil (w : World) (x : Int) : (Instr.lookup 66 (.map none) (.int .u64 x) true).run Tryz.prog w = .ok (.tuple #[.int .i64 0, .bool false]) w := by
  kernel_rfl
set_option maxRecDepth 100000 in
theorem neq_nilk (w : World) : (binOp .neq 66 (.map none) (.map none)).run Tryz.prog w = .ok (.bool false) w := by
  have h : ∀ d : Nat, (Op.equalIn (d + 1) 66 (.map none) (.map none)).run Tryz.prog w = .ok true w := fun d => by
    simp [Op.equalIn, run_underlying Tryz.underlying66]
  simp only [binOp]
  simp [Op.equal, Op.maxDepth, h 9999]
set_option maxRecDepth 100000 in
theorem neq_somek (w : World) (b : Nat) : (binOp .neq 66 (.map (some b)) (.map none)).run Tryz.prog w = .ok (.bool true) w := by
  have h : ∀ d : Nat, (Op.equalIn (d + 1) 66 (.map (some b)) (.map none)).run Tryz.prog w = .ok false w := fun d => by
    simp [Op.equalIn, run_underlying Tryz.underlying66]
  simp only [binOp]
  simp [Op.equal, Op.maxDepth, h 9999]

set_option maxRecDepth 100000 in
set_option maxRecDepth 100000 in
set_option maxHeartbeats 8000000 in
theorem weight_c (most : Nat) (hm3 : most ≤ 300) (ih : 1 ≤ most → WeighedC gs S mv SA sm sc kv most) : WeightC gs S mv SA sm sc kv most := by
  intro w n x hx hn hK hM
  obtain ⟨wa, hwa⟩ : ∃ wa, wa = w.alloc (.cells #[mv, .slice SA sm sc, kv] 68) := ⟨_, rfl⟩
  have hba : Below w.heap.size w wa := by rw [hwa]; exact (Below.refl _ w).alloc (Nat.le_refl _) _
  have rd : Rdr wa w.heap.size mv SA sm sc kv := by rw [hwa]; exact Rdr.new _ _ _ _ _ _
  by_cases h0 : most = 0
  · subst h0
    have H0 := Lib.hid (And.intro (Ch.below hK hba) (hK.below hba))
    clear hM hK hba rd ih
    go_enter Tryz.func26, Tryz.ntmps26
    go_upto_region 1 with fail
    rw [← hwa]
    clear hwa
    go_wp2
    go_ret
    exact ⟨0, n, rfl, .inl ⟨rfl, fun t _ => Tm.wt_pos t⟩, by omega, H0.out.2, by omega, fun h => by omega, H0.out.1⟩
  · have hd1 : decide ((most : Int) < 1) = false := decide_eq_false (by omega)
    have HW := Lib.hid (ih (by omega))
    have HPl := Lib.hid (plain_any x hx wa)
    have HT := Lib.hid (fun w => tag_any x hx w)
    cases hpl : plB x with
    | false =>
      have H0 := Lib.hid (And.intro (Ch.below hK hba) (hK.below hba))
      have HN : Hid (∀ t, Rd gs S x t → most < t.wt) := Lib.hid (fun t ht => by rw [ht.plain] at hpl; cases hpl)
      rw [hpl] at HPl
      clear hM hK hba rd ih hpl HW
      go_enter Tryz.func26, Tryz.ntmps26
      go_upto_region 1 with fail
      rw [← hwa]
      clear hwa
      go_wp2_with (go_at_call 51; (with_reducible refine HPl.out.mono ?_); rintro e w1 ⟨rfl, hb1⟩; replace hb1 := Lib.hid hb1)
      go_ret
      exact ⟨0, n, rfl, .inl ⟨rfl, HN.out⟩, by omega, H0.out.2.below hb1.out, by omega, fun h => by omega, H0.out.1.bel hb1.out⟩
    | true =>
      rw [hpl] at HPl
      by_cases h45 : x % 8 = 4 ∨ x % 8 = 5
      · have hd := wt_tag h45
        have H0 := Lib.hid (And.intro (Ch.below hK hba) (And.intro (hK.below hba) (And.intro (hM.below hba) rd)))
        have HX := Lib.hid (And.intro hx (And.intro hpl h45))
        clear hM hba rd ih hpl h45 hx
        rcases hK with hk0 | ⟨b, hkb, D, hown, htd, hkn⟩
        · subst hk0
          rcases hd with hd | ⟨hd, hd2⟩
          all_goals
            go_enter Tryz.func26, Tryz.ntmps26
            go_upto_region 1 with fail
            rw [← hwa]
            clear hwa
            generalize hD : w.heap.size = E at *
            go_upto_region 5 with (first
              | (go_at_call 51; (with_reducible refine HPl.out.mono ?_); rintro e w1 ⟨rfl, hb1⟩)
              | (go_at_call 52; (with_reducible refine (HT.out _).mono ?_); rintro e w4 ⟨rfl, rfl⟩))
            have rd1 := H0.out.2.2.2.below hb1 H0.out.2.2.2.lt
            have HC := Lib.hid (And.intro (H0.out.1.bel hb1) (And.intro (H0.out.2.1.below hb1) (H0.out.2.2.1.below hb1)))
            have HWd := Lib.hid (HW.out w1 n x HX.out.1 HX.out.2.1 HX.out.2.2 hn HC.out.2.1 HC.out.2.2)
            have q0 := rd1.c0
            have q1 := rd1.c1
            have q2 := rd1.c2
            have KQ : Hid (∀ w', Ch (.map none) w1 w' → Rdr w' E mv SA sm sc (.map none)) := Lib.hid (fun w' hc => ⟨hc.blk rd1.blk⟩)
            clear hb1 rd1 H0 HW
            have hlk := fun w => look_nil w x
            have hnq := fun w => neq_nilk w
            go_upto_region 8 with (go_at_call 53; (with_reducible refine HWd.out.mono ?_); rintro e w3 ⟨v, n', rfl, hv, hv9, hK3, hn2, hn3, hC3⟩; replace hC3 := Lib.hid hC3; replace hK3 := Lib.hid hK3; replace hv := Lib.hid hv; replace hn3 := Lib.hid hn3)
            have rd3 := KQ.out w3 hC3.out
            have q0 := rd3.c0
            have q1 := rd3.c1
            have q2 := rd3.c2
            by_cases hvm : most < v
            · have hd3 : decide ((most : Int) < (v : Int)) = true := decide_eq_true (by omega)
              have HR : Hid (WtR gs S x most 0) := Lib.hid (by
                rcases hv.out with ⟨h0, _⟩ | ⟨_, t, ht, hw⟩
                · omega
                · exact .inl ⟨rfl, fun t' ht' => by rw [ht'.det ht]; omega⟩)
              go_wp2
              go_ret
              exact ⟨0, n', rfl, HR.out, by omega, hK3.out, by omega, fun h => by omega, HC.out.1.trans hC3.out⟩
            · have hd3 : decide ((most : Int) < (v : Int)) = false := decide_eq_false (by omega)
              have HR : Hid (WtR gs S x most v) := Lib.hid (by
                rcases hv.out with ⟨h0, h1⟩ | ⟨h0, t, ht, hw⟩
                · exact .inl ⟨h0, h1⟩
                · exact .inr ⟨h0, by omega, t, ht, hw⟩)
              go_wp2
              go_ret
              exact ⟨v, n', rfl, HR.out, hv9, hK3.out, by omega, fun h => by have := hn3.out h; omega, HC.out.1.trans hC3.out⟩
        · subst hkb
          have hkey := Maps.keyOf_int_mk Tryz.underlying30 (a := x) (wf_u64' HX.out.1)
          rcases hd with hd | ⟨hd, hd2⟩
          all_goals
            go_enter Tryz.func26, Tryz.ntmps26
            go_upto_region 1 with fail
            rw [← hwa]
            clear hwa
            generalize hD : w.heap.size = E at *
            go_upto_region 5 with (first
              | (go_at_call 51; (with_reducible refine HPl.out.mono ?_); rintro e w1 ⟨rfl, hb1⟩)
              | (go_at_call 52; (with_reducible refine (HT.out _).mono ?_); rintro e w4 ⟨rfl, rfl⟩))
            have rd1 := H0.out.2.2.2.below hb1 H0.out.2.2.2.lt
            have HC := Lib.hid (And.intro (H0.out.1.bel hb1) (And.intro (H0.out.2.1.below hb1) (H0.out.2.2.1.below hb1)))
            have HWd := Lib.hid (HW.out w1 n x HX.out.1 HX.out.2.1 HX.out.2.2 hn HC.out.2.1 HC.out.2.2)
            have q0 := rd1.c0
            have q1 := rd1.c1
            have q2 := rd1.c2
            have KQ : Hid (∀ w', Ch (.map (some b)) w1 w' → Rdr w' E mv SA sm sc (.map (some b))) := Lib.hid (fun w' hc => ⟨hc.blk rd1.blk⟩)
            clear hb1 rd1 H0 HW hown htd hkn
            obtain ⟨D1, hown1, htd1, hkn1⟩ := kn_some HC.out.2.1
            replace hown1 := Lib.hid hown1
            cases hh : Maps.has D1 (.int .u64 x) with
            | true =>
              obtain ⟨t, hrt, ht3, hat1⟩ := hkn1 x hh
              obtain ⟨v, hvt⟩ : ∃ v, t.wt = v := ⟨_, rfl⟩
              have hv1 : 1 ≤ v := by rw [← hvt]; exact Tm.wt_pos t
              rw [hvt] at hat1
              replace hat1 := Lib.hid hat1
              have hv9 : v ≤ 1000 := by omega
              have hv : Hid (WgR gs S x most v) := Lib.hid (.inr ⟨hv1, t, hrt, hvt⟩)
              have hK3 : Hid (KN gs S w1 (.map (some b)) n) := Lib.hid HC.out.2.1
              have hC3 : Hid (Ch (.map (some b)) w1 w1) := Lib.hid (Ch.refl HC.out.2.1)
              have hn3 : Hid (0 < v → n ≤ n + (v - 1)) := Lib.hid (fun _ => by omega)
              have hn2 : n ≤ n + (most - 1) := by omega
              clear hrt hvt htd1 hkn1 HWd
              go_upto_region 8 with (at_lookup; go_loud (refine wpList_lookup_own_ok_int _ rfl _ _ 66 rfl 30 3 .i64 lawU Tryz.underlying66 Tryz.underlying3 (zeroI' _) b _ D1 rfl hown1.out _ _ rfl hkey ?_; intro c hat hwc; have hcv : c = (v : Int) := (by (have h9 := hat.symm.trans hat1.out); injection h9 with h9; injection h9); clear hat hwc; subst hcv))
              clear q0 q1 q2
              have rd3 := KQ.out w1 hC3.out
              have q0 := rd3.c0
              have q1 := rd3.c1
              have q2 := rd3.c2
              by_cases hvm : most < v
              · have hd3 : decide ((most : Int) < (v : Int)) = true := decide_eq_true (by omega)
                have HR : Hid (WtR gs S x most 0) := Lib.hid (by
                  rcases hv.out with ⟨h0, _⟩ | ⟨_, t, ht, hw⟩
                  · omega
                  · exact .inl ⟨rfl, fun t' ht' => by rw [ht'.det ht]; omega⟩)
                go_wp2
                go_ret
                exact ⟨0, n, rfl, HR.out, by omega, hK3.out, by omega, fun h => by omega, HC.out.1.trans hC3.out⟩
              · have hd3 : decide ((most : Int) < (v : Int)) = false := decide_eq_false (by omega)
                have HR : Hid (WtR gs S x most v) := Lib.hid (by
                  rcases hv.out with ⟨h0, h1⟩ | ⟨h0, t, ht, hw⟩
                  · exact .inl ⟨h0, h1⟩
                  · exact .inr ⟨h0, by omega, t, ht, hw⟩)
                have hnq := fun w => neq_somek w b
                have hv0 : ¬ v = 0 := by omega
                have hd4 : decide (0 < (v : Int)) = true := decide_eq_true (by omega)
                obtain ⟨t, hrt, htw⟩ : ∃ t, Rd gs S x t ∧ t.wt = v := by
                  rcases hv.out with ⟨h0, _⟩ | ⟨_, t, ht, hw⟩
                  · omega
                  · exact ⟨t, ht, hw⟩
                obtain ⟨D3, hown3, htd3, hkn3⟩ := kn_some hK3.out
                have HPut : Hid (∀ w', w'.ownsMap Tryz.prog 30 (plainElem Tryz.prog 3) b (n + 1) (D3.put (.int .u64 x) (.lit (.int .i64 (v : Int)))) → KN gs S w' (.map (some b)) (n + 1)) := Lib.hid (fun w' ho => .inr ⟨b, rfl, kn_put htd3 hkn3 hrt (by omega) (by rw [htw]; exact ho)⟩)
                have hn4 := hn3.out (by omega)
                have hlm : n < maxLen := by unfold maxLen; omega
                have hval := plainElem_int (H := Unit) Tryz.underlying3 (a := (v : Int)) (WalkArith.wf_i64 (by omega))
                replace hown3 := Lib.hid hown3
                clear hv hn3 hrt htw htd3 hkn3
                go_wp2_with (at_mapUpdate; go_loud (refine wpList_mapUpdate_own _ rfl _ _ _ 66 rfl 30 3 lawU Tryz.underlying66 _ b n D3 rfl hown3.out hlm _ _ _ rfl rfl hkey _ [] hval ?_; intro w5 hown5 hgrow5; replace hown5 := Lib.hid hown5; replace hgrow5 := Lib.hid hgrow5))
                go_ret
                refine ⟨v, n + 1, rfl, HR.out, hv9, HPut.out _ hown5.out, by omega, fun h => by omega, (HC.out.1.trans hC3.out).trans ⟨Chg.grown hgrow5.out (fun k e => by unfold Kk; rw [e]), fun b' e => ?_⟩⟩
                exact hK3.out.isMap e
            | false =>
              clear htd1 hkn1
              go_upto_region 8 with (first
                | (at_lookup; go_loud (refine wpList_lookup_own_ok_int _ rfl _ _ 66 rfl 30 3 .i64 lawU Tryz.underlying66 Tryz.underlying3 (zeroI' _) b _ D1 rfl hown1.out _ _ rfl hkey ?_; intro c hat hwc; clear hat hwc))
                | (go_at_call 53; (with_reducible refine HWd.out.mono ?_); rintro e w3 ⟨v, n', rfl, hv, hv9, hK3, hn2, hn3, hC3⟩; replace hC3 := Lib.hid hC3; replace hK3 := Lib.hid hK3; replace hv := Lib.hid hv; replace hn3 := Lib.hid hn3))
              clear q0 q1 q2
              have rd3 := KQ.out w3 hC3.out
              have q0 := rd3.c0
              have q1 := rd3.c1
              have q2 := rd3.c2
              by_cases hvm : most < v
              · have hd3 : decide ((most : Int) < (v : Int)) = true := decide_eq_true (by omega)
                have HR : Hid (WtR gs S x most 0) := Lib.hid (by
                  rcases hv.out with ⟨h0, _⟩ | ⟨_, t, ht, hw⟩
                  · omega
                  · exact .inl ⟨rfl, fun t' ht' => by rw [ht'.det ht]; omega⟩)
                go_wp2
                go_ret
                exact ⟨0, n', rfl, HR.out, by omega, hK3.out, by omega, fun h => by omega, HC.out.1.trans hC3.out⟩
              · have hd3 : decide ((most : Int) < (v : Int)) = false := decide_eq_false (by omega)
                have HR : Hid (WtR gs S x most v) := Lib.hid (by
                  rcases hv.out with ⟨h0, h1⟩ | ⟨h0, t, ht, hw⟩
                  · exact .inl ⟨h0, h1⟩
                  · exact .inr ⟨h0, by omega, t, ht, hw⟩)
                have hnq := fun w => neq_somek w b
                by_cases hv0 : v = 0
                · have hd4 : decide (0 < (v : Int)) = false := decide_eq_false (by omega)
                  have HR0 : Hid (WtR gs S x most 0) := Lib.hid (by rw [← hv0]; exact HR.out)
                  subst hv0
                  clear hv hn3
                  go_wp2
                  go_ret
                  exact ⟨0, n', rfl, HR0.out, by omega, hK3.out, by omega, fun h => by omega, HC.out.1.trans hC3.out⟩
                · have hd4 : decide (0 < (v : Int)) = true := decide_eq_true (by omega)
                  obtain ⟨t, hrt, htw⟩ : ∃ t, Rd gs S x t ∧ t.wt = v := by
                    rcases hv.out with ⟨h0, _⟩ | ⟨_, t, ht, hw⟩
                    · omega
                    · exact ⟨t, ht, hw⟩
                  obtain ⟨D3, hown3, htd3, hkn3⟩ := kn_some hK3.out
                  have HPut : Hid (∀ w', w'.ownsMap Tryz.prog 30 (plainElem Tryz.prog 3) b (n' + 1) (D3.put (.int .u64 x) (.lit (.int .i64 (v : Int)))) → KN gs S w' (.map (some b)) (n' + 1)) := Lib.hid (fun w' ho => .inr ⟨b, rfl, kn_put htd3 hkn3 hrt (by omega) (by rw [htw]; exact ho)⟩)
                  have hn4 := hn3.out (by omega)
                  have hlm : n' < maxLen := by unfold maxLen; omega
                  have hval := plainElem_int (H := Unit) Tryz.underlying3 (a := (v : Int)) (WalkArith.wf_i64 (by omega))
                  replace hown3 := Lib.hid hown3
                  clear hv hn3 hrt htw htd3 hkn3
                  go_wp2_with (at_mapUpdate; go_loud (refine wpList_mapUpdate_own _ rfl _ _ _ 66 rfl 30 3 lawU Tryz.underlying66 _ b n' D3 rfl hown3.out hlm _ _ _ rfl rfl hkey _ [] hval ?_; intro w5 hown5 hgrow5; replace hown5 := Lib.hid hown5; replace hgrow5 := Lib.hid hgrow5))
                  go_ret
                  refine ⟨v, n' + 1, rfl, HR.out, hv9, HPut.out _ hown5.out, by omega, fun h => by omega, (HC.out.1.trans hC3.out).trans ⟨Chg.grown hgrow5.out (fun k e => by unfold Kk; rw [e]), fun b' e => ?_⟩⟩
                  exact hK3.out.isMap e
      · have h4 : (x % 8 != 4) = true := bne_iff_ne.2 (fun e => h45 (.inl e))
        have h5 : (x % 8 != 5) = true := bne_iff_ne.2 (fun e => h45 (.inr e))
        have HR : Hid (WtR gs S x most 1) := Lib.hid (.inr ⟨by omega, by omega, smT x, rd_small hpl (fun e => h45 (.inl e)) (fun e => h45 (.inr e)), (smT_wt x).1⟩)
        have H0 := Lib.hid (And.intro (Ch.below hK hba) (hK.below hba))
        clear hM hK hba rd ih hpl HW h45
        go_enter Tryz.func26, Tryz.ntmps26
        go_upto_region 1 with fail
        rw [← hwa]
        clear hwa
        go_wp2_with (first
          | (go_at_call 51; (with_reducible refine HPl.out.mono ?_); rintro e w1 ⟨rfl, hb1⟩; replace hb1 := Lib.hid hb1)
          | (go_at_call 52; (with_reducible refine (HT.out _).mono ?_); rintro e w4 ⟨rfl, rfl⟩))
        go_ret
        exact ⟨1, n, rfl, HR.out, by omega, H0.out.2.below hb1.out, by omega, fun h => by omega, H0.out.1.bel hb1.out⟩

set_option maxRecDepth 100000 in
/-- Weights. -/
theorem rdWeight_any (most : Nat) (hm3 : most ≤ 300) : WeightC gs S mv SA sm sc kv most := by
  induction most using Nat.strongRecOn with
  | ind most ih =>
    exact weight_c gs S mv SA sm sc kv most hm3 (fun h1 => weighed_c gs S mv SA sm sc kv most (parts_c gs S mv SA sm sc kv most h1 hm3 (fun m hm => ih m hm (by omega))))
end
end Go.Proofs.YtejmmjedognaaaaGreat

namespace Go.Proofs.YtejmmjedognaaaaGreat
open Go.RowKit

/-- The term of a small integer. -/
def intT (z : Int) : Tm := ofT (decide (z < 0)) (Lm.digits z.natAbs)
set_option maxRecDepth 100000 in
theorem may_digits (z : Int) (ht : z.natAbs < Lm.top) : mayB (decide (z < 0)) (Lm.digits z.natAbs) = true := by
  unfold mayB
  by_cases h0 : (Lm.digits z.natAbs).length = 0
  · rw [if_pos h0]
    have : z.natAbs = 0 := Lm.digits_eq_nil.1 (List.eq_nil_of_length_eq_zero h0)
    have hz : z = 0 := by omega
    subst hz
    rfl
  · rw [if_neg h0]
    have h1 := (Lm.top_iff _).2 ht
    have h2 := Lm.canon_digits z.natAbs (by omega)
    simp [h1]
    exact h2
set_option maxRecDepth 100000 in
theorem sgn_digits (z : Int) : sgn (decide (z < 0)) (Lm.val (Lm.digits z.natAbs)) = z := by
  rw [Lm.val_digits]
  unfold sgn
  by_cases hz : z < 0
  · simp [hz]; omega
  · simp [hz]; omega
set_option maxRecDepth 100000 in
theorem intT_small {z : Int} (ht : z.natAbs < Lm.top) (h : smallB z = true) : intT z = .mk 1 z false [] 0 ⟨#[]⟩ [] := by
  unfold intT ofT smZ smOk
  rw [may_digits z ht, sgn_digits, h]
  rfl
set_option maxRecDepth 100000 in
theorem intT_big {z : Int} (ht : z.natAbs < Lm.top) (h : smallB z = false) : intT z = .mk 2 0 (decide (z < 0)) (Lm.digits z.natAbs) 0 ⟨#[]⟩ [] := by
  unfold intT ofT smOk
  rw [may_digits z ht, sgn_digits, h]
  rfl

set_option maxRecDepth 100000 in
theorem TVS.leafy {S : Nat → Prop} {w : World} {R : TR} {t : Tm} (h : TV w R t) (ho : 0 < R.ln → ∀ a, R.A = some a → S a.block) (hm : R.m = 0) : TVS S w R t := by
  cases h with
  | mk _ l ks V hf hm' hs hk =>
    refine .mk R l ks V hf hm' hs ⟨ho, fun h => absurd h (by omega)⟩ (fun i t e => ?_)
    rw [List.eq_nil_of_length_eq_zero (hm'.trans hm)] at e
    simp at e
/-- A call leaves this term. -/
def RetT (w : World) (t : Tm) (e : Ending) (w' : World) : Prop := ∃ R : TR, e = .returned (.agg #[.int .i64 R.k, .int .i64 R.n, .bool R.g, .slice R.A R.ln R.lc, .int .u64 R.u, .string R.s, .slice R.B R.m R.d]) ∧ TV w' R t ∧ Below w.heap.size w w'

end Go.Proofs.YtejmmjedognaaaaGreat

namespace Go.Proofs.YtejmmjedognaaaaGreat
open Go.RowKit

set_option maxRecDepth 100000 in
/-- append, as one step of a region that draws. -/
theorem step_app {P : Program} {ops : Array Oper} {o : Oper} {a : Act} {w w' : World} {K : Act → World → Prop} {Q : Exit → Act → World → Prop} {E : Prop}
    (hg : o.guard = none) (s x : Operand) (t : TypeId) (hop : o.op = Op.call { callee := Callee.builtin Builtin.append, args := #[s, x], argTypes := #[t, t] })
    (v y v' : Value) (hs : a.eval s = v) (hx : a.eval x = y) (hrun : (Builtin.append_ #[t, t] o.type #[v, y]).run P w = .ok v' w')
    (hK : K (a.put o.dst v') w') : if Region.wanted o (yielded ops a.tmps) = true then Oper.wp P o a w K Q else E := by
  have hw : Region.wanted o (yielded ops a.tmps) = true := by simp [Region.wanted, hg]
  rw [if_pos hw]
  unfold Oper.wp
  simp [execOp, hop, resolve, invoke, builtin, hs, hx, hrun, Result.andThen]
  exact hK

end Go.Proofs.YtejmmjedognaaaaGreat

namespace Go.Proofs.YtejmmjedognaaaaGreat
open Go.RowKit

set_option maxRecDepth 100000 in
theorem Tm.sizes_take {ts : List Tm} {j : Nat} {t : Tm} (h : ts[j]? = some t) : Tm.size.sizes (ts.take (j + 1)) = Tm.size.sizes (ts.take j) + t.size := by
  induction ts generalizing j with
  | nil => simp at h
  | cons a r ih =>
    cases j with
    | zero => simp at h; subst h; simp [Tm.size.sizes]
    | succ j =>
      simp at h
      have := ih h
      simp only [List.take_succ_cons, Tm.size.sizes, this]
      omega
set_option maxRecDepth 100000 in
theorem Tm.sizes_take_le (ts : List Tm) (j : Nat) : Tm.size.sizes (ts.take j) ≤ Tm.size.sizes ts := by
  induction ts generalizing j with
  | nil => simp
  | cons a r ih =>
    cases j with
    | zero => simp [Tm.size.sizes]
    | succ j => have := ih j; simp only [List.take_succ_cons, Tm.size.sizes]; omega

end Go.Proofs.YtejmmjedognaaaaGreat
