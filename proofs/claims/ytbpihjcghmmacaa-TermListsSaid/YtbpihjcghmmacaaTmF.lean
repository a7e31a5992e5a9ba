/-
  THE REFERENCE's Weight AND Above.
-/
import Derived.Test.YtbpihjcghmmacaaTmE
namespace Go.Proofs.Ytbpihjcghmmacaa
open Go.RowKit

theorem cap_big {t : Tm} (h : t.kind = 2) : t.cap = min 301 (1 + t.mag.length) := by
  cases t with
  | mk k n g l u s ks => unfold Tm.cap; rw [Tm.wt, if_pos (show k = 2 from h)]; rfl
theorem cap_bin {t : Tm} (h : t.kind = 9) : t.cap = min 301 (1 + t.bytes.size / 8) := by
  cases t with
  | mk k n g l u s ks =>
    have h' : k = 9 := h
    unfold Tm.cap; rw [Tm.wt, if_neg (by omega), if_pos h']; rfl
theorem cap_leaf {t : Tm} (h2 : t.kind ≠ 2) (h9 : t.kind ≠ 9) (h6 : t.kind ≠ 6) (h8 : t.kind ≠ 8) : t.cap = 1 := by
  unfold Tm.cap
  rw [wt_leaf h6 h8]
  unfold ownW
  rw [if_neg h2, if_neg h9]
  rfl
theorem caps_wts (ts : List Tm) : min 301 (Tm.caps ts) = min 301 (Tm.wts ts) := by
  induction ts with
  | nil => simp [Tm.caps, Tm.wts]
  | cons t r ih => simp only [Tm.caps, Tm.wts, Tm.cap]; omega
theorem cap_node {t : Tm} (h : t.kind = 6 ∨ t.kind = 8) : t.cap = min 301 (1 + Tm.caps t.args) := by
  have h1 := (wt_node h).1
  have h2 := caps_wts t.args
  unfold Tm.cap
  omega

set_option maxHeartbeats 4000000 in
theorem refWeight_any (t : Tm) : ∀ (w : World) (r : TR), TV w r t → t.Ok →
    Calls Try.prog 38 #[.agg #[.int .i64 r.k, .int .i64 r.n, .bool r.g, .slice r.A r.ln r.lc, .int .u64 r.u, .string r.s, .slice r.B r.m r.d]] w fun e w' => e = .returned (.int .i64 (t.cap : Int)) ∧ Below w.heap.size w w' := by
  induction t using Tm.ind with
  | h k n g l u s ks ih =>
    intro w r htv hok
    have IH := Lib.hid ih
    clear ih
    obtain ⟨t, ht⟩ : ∃ t, t = Tm.mk k n g l u s ks := ⟨_, rfl⟩
    have hks : t.args = ks := by rw [ht]; rfl
    rw [← hks] at IH
    rw [← ht] at htv hok ⊢
    clear hks ht
    have hl := Ok.limbs htv hok
    have hs := Ok.bytes htv hok
    obtain ⟨R, hR⟩ : ∃ R, R = (t.cap : Int) := ⟨_, rfl⟩
    rw [← hR]
    have HR := Lib.hid hR
    have hkk := htv.kind
    have hts := htv.args
    have hml : r.m ≤ maxLen := Nat.le_trans hts.md hts.dd
    have hml' : (r.m : Int) ≤ 9223372036854775807 := by unfold maxLen at hml; omega
    clear hR
    have hb0 := (Below.refl w.heap.size w).alloc (Nat.le_refl _) (.cells #[.int .i64 r.k, .int .i64 r.n, .bool r.g, .slice r.A r.ln r.lc, .int .u64 r.u, .string r.s, .slice r.B r.m r.d] 28)
    have hbx := Box7.new w r
    have htv0 := htv.bel hb0
    have hsz : w.heap.size < (w.alloc (.cells #[.int .i64 r.k, .int .i64 r.n, .bool r.g, .slice r.A r.ln r.lc, .int .u64 r.u, .string r.s, .slice r.B r.m r.d] 28)).heap.size := by simp
    have MG := Lib.hid htv.magLen
    have BY := Lib.hid htv.bytes
    by_cases h2 : r.k = 2
    · have e2 : (r.k == 2) = true := by rw [h2]; rfl
      have hfin := Lib.hid (show R = min 301 (1 + (r.ln : Int)) by
        have := cap_big (t := t) (by rw [hkk]; exact h2)
        rw [HR.out, this, MG.out]; omega)
      clear h2 hkk
      go_enter Try.func38, Try.ntmps38
      go_wp2
      all_goals
        go_ret
        exact ⟨by rw [hfin.out]; simp; try omega, hb0⟩
    have e2 : (r.k == 2) = false := by rw [beq_eq_false_iff_ne]; exact h2
    by_cases h9 : r.k = 9
    · have e9 : (r.k == 9) = true := by rw [h9]; rfl
      have hfin := Lib.hid (show R = min 301 (1 + (r.s.size / 8 : Nat)) by
        have := cap_bin (t := t) (by rw [hkk]; exact h9)
        rw [HR.out, this, BY.out])
      clear h9 h2 hkk
      go_enter Try.func38, Try.ntmps38
      go_wp2
      all_goals
        go_ret
        exact ⟨by rw [hfin.out]; simp; try omega, hb0⟩
    have e9 : (r.k == 9) = false := by rw [beq_eq_false_iff_ne]; exact h9
    by_cases hnode : r.k = 6 ∨ r.k = 8
    · have hw := Lib.hid (cap_node (t := t) (by rw [hkk]; exact hnode))
      have hcase : Hid (R = min 301 (1 + (Tm.caps t.args : Int))) := Lib.hid (by rw [HR.out, hw.out]; omega)
      clear HR hw htv hts hkk MG BY
      have hts1 := htv0.args
      go_enter Try.func38, Try.ntmps38
      have hn6 : ((r.k == 6) = true ∧ (r.k == 8) = false) ∨ ((r.k == 6) = false ∧ (r.k == 8) = true) := by
        rcases hnode with h6 | h6
        · exact .inl ⟨by rw [h6]; rfl, by rw [h6]; rfl⟩
        · exact .inr ⟨by rw [h6]; rfl, by rw [h6]; rfl⟩
      clear hnode h2 h9
      rcases hn6 with ⟨e6, e8⟩ | ⟨e6, e8⟩
      all_goals
        go_wp2_with fail
        generalize w.alloc (.cells #[.int .i64 r.k, .int .i64 r.n, .bool r.g, .slice r.A r.ln r.lc, .int .u64 r.u, .string r.s, .slice r.B r.m r.d] 28) = W at *
        go_loopw [3, 4] (fun x i w' => ∃ (j z : Nat), j ≤ r.m ∧ i = .int .i64 (j : Int) ∧ x = .int .i64 (z : Int) ∧ z ≤ 601 ∧ Hid (min 301 z = min 301 (1 + Tm.caps (t.args.take j))) ∧ Below W.heap.size W w') (fun _ i _ => r.m - (intOf i).toNat)
        case atStart => exact ⟨0, 1, Nat.zero_le _, rfl, rfl, by omega, Lib.hid (by simp [Tm.caps]), Below.refl _ _⟩
        case round =>
          obtain ⟨j, z, hj, rfl, rfl, hz1, hz, hb⟩ := hrel
          have hxx := (hbx.below hb).at
          have hx6' : wr.cell? ⟨w.heap.size, 6, none⟩ = some (.slice r.B r.m r.d) := hxx.c6
          by_cases hjm : j < r.m
          · have hd1 : decide ((j : Int) < (r.m : Int)) = true := by rw [decide_eq_true_iff]; omega
            by_cases hzp : (z : Int) ≤ 300
            · obtain ⟨b, o, r', t', e, hlt, h7, het, htv'⟩ := (hts1.below hb).get j hjm
              have hmem := List.mem_of_getElem? het
              have st := Lib.hid (Tm.caps_take_succ het)
              have d0 := h7.c0
              have d1 := h7.c1
              have d2 := h7.c2
              have d3 := h7.c3
              have d4 := h7.c4
              have d5 := h7.c5
              have d6 := h7.c6
              rw [e] at hx6'
              clear e
              go_wp2_with fail
              refine (IH.out t' hmem wr r' htv' (Ok.kids hok hmem)).mono ?_
              have hcap := Tm.cap_le t'
              generalize t'.cap = q at hcap st ⊢
              rintro e w2 ⟨rfl, hb2⟩
              go_wp2_with fail
              go_roundw
              case rel => exact ⟨j + 1, z + q, by omega, by go_num, by go_num, by omega, Lib.hid (by have h1 := st.out; have h2 := hz.out; omega), hb.trans (hb2.mono hb.size)⟩
              case measure => simp [intOf]; omega
            · have hfin := Lib.hid (show R = 301 by
                have h1 := hcase.out
                have h2 := hz.out
                have h3 := Tm.caps_take_le t.args j
                omega)
              have hd : decide ((z : Int) ≤ 300) = false := by rw [decide_eq_false_iff_not]; exact hzp
              have hmin : min (z : Int) 301 = 301 := by omega
              go_wp2
              all_goals
                go_ret
                exact ⟨by rw [hfin.out]; simp; try omega, hb0.trans (hb.mono (by have := hb0.size; omega))⟩
          · have hfin := Lib.hid (show R = min (z : Int) 301 by
              have h1 := hcase.out
              have h2 := hz.out
              rw [Tm.caps_all (by rw [hts1.len]; omega)] at h2
              omega)
            have hd1 : decide ((j : Int) < (r.m : Int)) = false := by rw [decide_eq_false_iff_not]; omega
            go_wp2
            all_goals
              go_ret
              exact ⟨by rw [hfin.out]; simp; try omega, hb0.trans (hb.mono (by have := hb0.size; omega))⟩
    · have e6 : (r.k == 6) = false := by rw [beq_eq_false_iff_ne]; omega
      have e8 : (r.k == 8) = false := by rw [beq_eq_false_iff_ne]; omega
      have hfin := Lib.hid (show R = 1 by
        rw [HR.out, cap_leaf (t := t) (by rw [hkk]; omega) (by rw [hkk]; omega) (by rw [hkk]; omega) (by rw [hkk]; omega)]; rfl)
      clear h2 h9 hnode hkk
      go_enter Try.func38, Try.ntmps38
      go_wp2
      all_goals
        go_ret
        exact ⟨by rw [hfin.out]; rfl, hb0⟩

end Go.Proofs.Ytbpihjcghmmacaa
