/-
  PACKAGE weigh: room, Weight, Above; the reference's Weight, Above.
-/
import Derived.Test.YtbpihjcghmmacaaTmC
namespace Go.Proofs.Ytbpihjcghmmacaa
open Go.RowKit

theorem Ok.limbs {w : World} {r : TR} {t : Tm} (h : TV w r t) (ho : t.Ok) : r.ln ≤ 40 := by rw [← h.magLen]; cases t; exact (Tm.ok_mk.1 ho).1
theorem Ok.bytes {w : World} {r : TR} {t : Tm} (h : TV w r t) (ho : t.Ok) : r.s.size ≤ 1000 := by rw [← h.bytes]; cases t; exact (Tm.ok_mk.1 ho).2.1
theorem Ok.kids {t x : Tm} (ho : t.Ok) (h : x ∈ t.args) : x.Ok := by cases t; exact (Tm.ok_mk.1 ho).2.2 x h

/-- The weight of a term without its arguments. -/
def ownW (t : Tm) : Nat := if t.kind = 2 then 1 + t.mag.length else if t.kind = 9 then 1 + t.bytes.size / 8 else 1
theorem wt_leaf {t : Tm} (h6 : t.kind ≠ 6) (h8 : t.kind ≠ 8) : t.wt = ownW t := by
  cases t with
  | mk k n g l u s ks =>
    have e : ownW (.mk k n g l u s ks) = if k = 2 then 1 + l.length else if k = 9 then 1 + s.size / 8 else 1 := rfl
    rw [e, Tm.wt, if_neg (show ¬ (k = 6 ∨ k = 8) from fun h => h.elim h6 h8)]
theorem wt_node {t : Tm} (h : t.kind = 6 ∨ t.kind = 8) : t.wt = 1 + Tm.wts t.args ∧ ownW t = 1 := by
  cases t with
  | mk k n g l u s ks =>
    have h' : k = 6 ∨ k = 8 := h
    have e : ownW (.mk k n g l u s ks) = if k = 2 then 1 + l.length else if k = 9 then 1 + s.size / 8 else 1 := rfl
    rw [e, Tm.wt, if_pos h', if_neg (show ¬ k = 2 by omega), if_neg (show ¬ k = 9 by omega), if_neg (show ¬ k = 2 by omega), if_neg (show ¬ k = 9 by omega)]
    exact ⟨rfl, rfl⟩
theorem wts_all {ts : List Tm} {j : Nat} (h : ts.length ≤ j) : Tm.wts (ts.take j) = Tm.wts ts := by rw [List.take_of_length_le h]
theorem ownW_le {w : World} {r : TR} {t : Tm} (h : TV w r t) (ho : t.Ok) : 1 ≤ ownW t ∧ ownW t ≤ 1000 := by
  have h1 := Ok.limbs h ho
  have h2 := Ok.bytes h ho
  rw [← h.magLen] at h1
  rw [← h.bytes] at h2
  unfold ownW
  split
  · omega
  · split <;> omega

/-- The boxed record. -/
def Box7 (w : World) (g : Nat) (r : TR) : Prop := w.heap[g]? = some (.cells #[.int .i64 r.k, .int .i64 r.n, .bool r.g, .slice r.A r.ln r.lc, .int .u64 r.u, .string r.s, .slice r.B r.m r.d] 28 (0, 0))
section
variable {w w' : World} {g : Nat} {r : TR}
theorem Box7.lt (h : Box7 w g r) : g < w.heap.size := (Array.getElem?_eq_some_iff.1 h).1
theorem Box7.new (w : World) (r : TR) : Box7 (w.alloc (.cells #[.int .i64 r.k, .int .i64 r.n, .bool r.g, .slice r.A r.ln r.lc, .int .u64 r.u, .string r.s, .slice r.B r.m r.d] 28)) w.heap.size r := heap_alloc_new w _
theorem Box7.below (h : Box7 w g r) (hb : Below w.heap.size w w') : Box7 w' g r := (hb.block g h.lt).trans h
theorem Box7.at (h : Box7 w g r) : At7 w g 0 r := by
  refine ⟨?_, ?_, ?_, ?_, ?_, ?_, ?_⟩ <;> (rw [cell_of_row w g _ _ _ (0, 0) h]; rfl)
theorem Box7.drew (h : Box7 w g r) : Box7 w.drew g r := h
end

set_option maxHeartbeats 2000000 in
theorem room_any (t : Tm) : ∀ (w : World) (r : TR), TV w r t → t.Ok → ∀ left : Int, 0 ≤ left → left ≤ 1000000 →
    Calls Try.prog 49 #[.agg #[.int .i64 r.k, .int .i64 r.n, .bool r.g, .slice r.A r.ln r.lc, .int .u64 r.u, .string r.s, .slice r.B r.m r.d], .int .i64 left] w fun e w' => e = .returned (.int .i64 (left - min left (t.wt : Int))) ∧ Below w.heap.size w w' := by
  induction t using Tm.ind with
  | h k n g l u s ks ih =>
    intro w r htv hok left hl0 hl1
    have IH := Lib.hid ih
    clear ih
    obtain ⟨t, ht⟩ : ∃ t, t = Tm.mk k n g l u s ks := ⟨_, rfl⟩
    have hks : t.args = ks := by rw [ht]; rfl
    rw [← hks] at IH
    rw [← ht] at htv hok ⊢
    clear hks ht
    have how := ownW_le htv hok
    obtain ⟨R, hR⟩ : ∃ R, R = left - min left (t.wt : Int) := ⟨_, rfl⟩
    rw [← hR]
    have HR := Lib.hid hR
    have hkk := htv.kind
    have hts := htv.args
    have hml : r.m ≤ maxLen := Nat.le_trans hts.md hts.dd
    have hml' : (r.m : Int) ≤ 9223372036854775807 := by unfold maxLen at hml; omega
    clear hR
    have hb0 := (Below.refl w.heap.size w).alloc (Nat.le_refl _) (.cells #[.int .i64 r.k, .int .i64 r.n, .bool r.g, .slice r.A r.ln r.lc, .int .u64 r.u, .string r.s, .slice r.B r.m r.d] 28)
    have hbx := Box7.new w r
    have htv0 := htv.bel hb0
    have hsz : w.heap.size < (w.alloc (.cells #[.int .i64 r.k, .int .i64 r.n, .bool r.g, .slice r.A r.ln r.lc, .int .u64 r.u, .string r.s, .slice r.B r.m r.d] 28)).heap.size := by simp
    go_enter Try.func49, Try.ntmps49
    go_wp2_with fail
    generalize w.alloc (.cells #[.int .i64 r.k, .int .i64 r.n, .bool r.g, .slice r.A r.ln r.lc, .int .u64 r.u, .string r.s, .slice r.B r.m r.d] 28) = W at *
    refine (own_any W r t htv0 hok (ownW t) rfl).mono ?_
    generalize hq : ownW t = q at how ⊢
    have HQ := Lib.hid hq
    clear hq
    rintro e w1 ⟨rfl, hb1⟩
    have hbx1 := hbx.below hb1
    have htv1 := htv0.bel hb1
    have hb01 := hb0.trans (hb1.mono hb0.size)
    have x0 := hbx1.at.c0
    have x6 := hbx1.at.c6
    by_cases hnode : r.k = 6 ∨ r.k = 8
    · have hw := wt_node (t := t) (by rw [hkk]; exact hnode)
      have hq1 : q = 1 := by rw [← HQ.out]; exact hw.2
      subst hq1
      have HW := Lib.hid hw.1
      clear hw
      have hts1 := htv1.args
      obtain ⟨p, hp⟩ : ∃ p, p = w.heap.size := ⟨_, rfl⟩
      rw [← hp] at hbx1
      have hx0 : w1.cell? ⟨p, 0, none⟩ = some (.int .i64 r.k) := hbx1.at.c0
      have hx6 : w1.cell? ⟨p, 6, none⟩ = some (.slice r.B r.m r.d) := hbx1.at.c6
      clear x0 x6 hbx
      have hwp : Hid (p = w.heap.size) := hp
      rw [← hp]
      clear hp
      have hcase : Hid (R = left - min left (1 + (Tm.wts t.args : Int))) := Lib.hid (by rw [HR.out, HW.out]; congr 2)
      clear HR HW htv htv0 htv1 hts hkk
      rcases hnode with h6 | h6
      all_goals
        rw [h6] at hx0
        by_cases hl1' : left ≤ 1
        all_goals
          go_wp2_with fail
          go_loopw [1, 5] (fun x i w' => ∃ (j : Nat) (z : Int), j ≤ r.m ∧ i = .int .i64 (j : Int) ∧ x = .int .i64 z ∧ 0 ≤ z ∧ z ≤ left ∧ Hid (z = left - min left (1 + (Tm.wts (t.args.take j) : Int))) ∧ Below w1.heap.size w1 w') (fun _ i _ => r.m - (intOf i).toNat)
          case atStart => exact ⟨0, _, Nat.zero_le _, rfl, rfl, by omega, by omega, Lib.hid (by simp only [List.take_zero, Tm.wts]; omega), Below.refl _ _⟩
          case round =>
            obtain ⟨j, z, hj, rfl, rfl, hz0, hz1, hz, hb⟩ := hrel
            have hxx := (hbx1.below hb).at
            have hx6' : wr.cell? ⟨p, 6, none⟩ = some (.slice r.B r.m r.d) := hxx.c6
            by_cases hjm : j < r.m
            · by_cases hzp : 0 < z
              · obtain ⟨b, o, r', t', e, hlt, h7, het, htv'⟩ := (hts1.below hb).get j hjm
                have hmem := List.mem_of_getElem? het
                have st := Lib.hid (Tm.wts_take_succ het)
                have d0 := h7.c0
                have d1 := h7.c1
                have d2 := h7.c2
                have d3 := h7.c3
                have d4 := h7.c4
                have d5 := h7.c5
                have d6 := h7.c6
                rw [e] at hx6'
                clear e
                have hd1 : decide ((j : Int) < (r.m : Int)) = true := by rw [decide_eq_true_iff]; omega
                go_wp2_with fail
                refine (IH.out t' hmem wr r' htv' (Ok.kids hok hmem) z (by omega) (by omega)).mono ?_
                obtain ⟨q', hq'⟩ : ∃ q', q' = z - min z (t'.wt : Int) := ⟨_, rfl⟩
                have hqb : 0 ≤ q' ∧ q' ≤ z := by omega
                have hst := Lib.hid (show q' = left - min left (1 + (Tm.wts (t.args.take (j + 1)) : Int)) by
                  have h1 := st.out
                  have h2 := hz.out
                  omega)
                rw [← hq']
                clear hq'
                rintro e w2 ⟨rfl, hb2⟩
                go_wp2_with fail
                go_roundw
                case rel => exact ⟨j + 1, q', by omega, by go_num, by go_num, by omega, by omega, hst, hb.trans (hb2.mono hb.size)⟩
                case measure => simp [intOf]; omega
              · have hfin := Lib.hid (show R = z by
                  have h1 := hcase.out
                  have h2 := hz.out
                  have h3 := Tm.wts_take_le t.args j
                  omega)
                have hd1 : decide ((j : Int) < (r.m : Int)) = true := by rw [decide_eq_true_iff]; omega
                have hd : decide (0 < z) = false := by rw [decide_eq_false_iff_not]; exact hzp
                go_wp2_with fail
                go_ret
                exact ⟨by rw [hfin.out]; rfl, hb01.trans (hb.mono (by have := hb01.size; omega))⟩
            · have hfin := Lib.hid (show R = z by
                have h1 := hcase.out
                have h2 := hz.out
                rw [wts_all (by rw [hts1.len]; omega)] at h2
                omega)
              have hd1 : decide ((j : Int) < (r.m : Int)) = false := by rw [decide_eq_false_iff_not]; omega
              go_wp2_with fail
              go_ret
              exact ⟨by rw [hfin.out]; rfl, hb01.trans (hb.mono (by have := hb01.size; omega))⟩
    · have e6 : (r.k == 6) = false := by rw [beq_eq_false_iff_ne]; omega
      have e8 : (r.k == 8) = false := by rw [beq_eq_false_iff_ne]; omega
      have n6 : (r.k != 6) = true := by rw [bne_iff_ne]; omega
      have n8 : (r.k != 8) = true := by rw [bne_iff_ne]; omega
      have hw := Lib.hid (wt_leaf (t := t) (by rw [hkk]; omega) (by rw [hkk]; omega))
      have hcase : Hid (R = left - min left (q : Int)) := Lib.hid (by rw [HR.out, hw.out, HQ.out])
      by_cases hlq : left ≤ q
      all_goals
        go_wp2_with fail
        go_ret
        exact ⟨by rw [hcase.out]; simp; omega, hb01⟩
end Go.Proofs.Ytbpihjcghmmacaa
