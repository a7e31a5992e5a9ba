/-
  PACKAGE look: measured, next, closed.
  PACKAGE look: closed.
  PACKAGE look: copies of strings (as StF).
-/
import Derived.Test.YtejmmjedognaaaaGreatMv27
import Derived.Lib.Strings
import Derived.Lib.UnsafeStr
import Derived.Lib.BufferWrite
import Derived.Laws.MakeOwn
namespace Go.Proofs.YtejmmjedognaaaaGreat
open Go.RowKit
open St

/-- Are Size and Mark right? -/
def msB (d : Dmp) : Bool := decide ((d.y.ws.length : Int) ≤ d.size) && (decide (0 ≤ d.mark) && decide (d.mark ≤ (d.y.ws.length : Int)))
set_option maxRecDepth 100000 in
set_option maxRecDepth 100000 in
set_option maxHeartbeats 4000000 in
theorem measured_any {w : World} {r : DR} {d : Dmp} (h : DV w r d) :
    Calls Tryz.prog 30 #[.agg #[.int .i64 r.y.at_, .slice r.y.A r.y.n r.y.c, .int .i64 r.o.at_, .slice r.o.A r.o.n r.o.c, .int .i64 r.size, .int .i64 r.mark, .slice r.F r.fm r.fc, .slice r.R r.rm r.rc, .slice r.H r.hm r.hc]] w fun e w' => e = .returned (.bool (msB d)) ∧ Below w.heap.size w w' := by
  obtain ⟨wa, hwa⟩ : ∃ wa, wa = w.alloc (.cells #[.int .i64 r.y.at_, .slice r.y.A r.y.n r.y.c, .int .i64 r.o.at_, .slice r.o.A r.o.n r.o.c, .int .i64 r.size, .int .i64 r.mark, .slice r.F r.fm r.fc, .slice r.R r.rm r.rc, .slice r.H r.hm r.hc] 28) := ⟨_, rfl⟩
  have hba : Below w.heap.size w wa := by rw [hwa]; exact (Below.refl _ w).alloc (Nat.le_refl _) _
  have xa : Bx wa w.heap.size r := ⟨by rw [hwa]; exact heap_alloc_new w _⟩
  have HM : Hid (msB d = (decide ((r.y.n : Int) ≤ r.size) && (decide (0 ≤ r.mark) && decide (r.mark ≤ (r.y.n : Int))))) := Lib.hid (by unfold msB; rw [h.y.ws.len, h.size, h.mark])
  have hn : r.y.n ≤ 9223372036854775807 := Nat.le_trans h.y.ws.nc h.y.ws.cm
  have c1 := xa.c1
  have c4 := xa.c4
  have c5 := xa.c5
  have HB := Lib.hid hba
  clear h hba xa
  obtain ⟨res, hres⟩ : ∃ res, res = msB d := ⟨_, rfl⟩
  rw [← hres]
  rw [← hres] at HM
  clear hres
  cases e1 : decide ((r.y.n : Int) ≤ r.size) with
  | false =>
    rw [e1] at HM
    go_enter Tryz.func30, Tryz.ntmps30
    go_upto_region 1 with fail
    rw [← hwa]
    clear hwa
    go_wp2
    go_ret
    exact ⟨by rw [HM.out]; rfl, HB.out⟩
  | true =>
    cases e2 : decide (0 ≤ r.mark) with
    | false =>
      rw [e1, e2] at HM
      go_enter Tryz.func30, Tryz.ntmps30
      go_upto_region 1 with fail
      rw [← hwa]
      clear hwa
      go_wp2
      go_ret
      exact ⟨by rw [HM.out]; rfl, HB.out⟩
    | true =>
      obtain ⟨bb, hbb⟩ : ∃ bb, decide (r.mark ≤ (r.y.n : Int)) = bb := ⟨_, rfl⟩
      rw [e1, e2, hbb] at HM
      go_enter Tryz.func30, Tryz.ntmps30
      go_upto_region 1 with fail
      rw [← hwa]
      clear hwa
      go_wp2
      go_ret
      exact ⟨by rw [HM.out]; rfl, HB.out⟩

/-- The word that may lead somewhere, and those behind. -/
def nxO (ws : List Int) : Int × List Int :=
  match ws with
  | [] => (0, [])
  | x :: t => if ptB x = false ∨ x / 8 % 8 = 0 then (x, t)
    else if x / 8 % 8 = 5 ∧ 0 < min (x / 64).toNat t.length then (t.getD 0 0, t.drop (x / 64).toNat) else (x, t.drop (x / 64).toNat)
set_option maxRecDepth 100000 in
theorem zs_tail {q : IntKind} {w : World} {b o n c : Nat} {x : Int} {t : List Int} (h : Zs q w (some ⟨b, o, none⟩) (n + 1) c (x :: t)) (m o' : Nat) (hm : m ≤ n) (ho : m = n ∨ o' = o + (1 + m)) : Zs q w (some ⟨b, o', none⟩) (n - m) (c - (1 + m)) (t.drop m) := by
  have h1 := h.part (lo := 1 + m) (m := n - m) (o' := o') (by omega) (by omega)
  have hl := h.len
  simp only [List.length_cons] at hl
  rw [show (x :: t).drop (1 + m) = t.drop m by rw [Nat.add_comm]; rfl, List.take_of_length_le (by rw [List.length_drop]; omega)] at h1
  exact h1

set_option maxRecDepth 100000 in
theorem nx_zs {w w' : World} {b o o' m c j k c' : Nat} {x : Int} {t : List Int} (h : Zs .u64 w (some ⟨b, o, none⟩) (m + 1) c (x :: t)) (hb : Below w.heap.size w w') (hj : j ≤ m) (ho : j = m ∨ o' = o + (1 + j)) (hk : k = m - j) (hc : c' = c - (1 + j)) : Zs .u64 w' (some ⟨b, o', none⟩) k c' (t.drop j) := by
  subst hk hc
  exact (zs_tail h j o' hj ho).below hb
set_option maxRecDepth 100000 in
set_option maxRecDepth 100000 in
set_option maxHeartbeats 8000000 in
theorem next_any {w : World} {A : Option Addr} {n c : Nat} {ws : List Int} (h : Zs .u64 w A n c ws) (hn : 0 < n) (hn1 : n ≤ 1000) :
    Calls Tryz.prog 65 #[.slice A n c] w fun e w' => ∃ B k c', e = .returned (.tuple #[.int .u64 (nxO ws).1, .slice B k c']) ∧ Zs .u64 w' B k c' (nxO ws).2 ∧ k < n ∧ Below w.heap.size w w' := by
  obtain ⟨b, o, hA, _⟩ := h.some hn
  subst hA
  have hl := h.len
  have hcm : c ≤ 9223372036854775807 := h.cm
  have hnc := h.nc
  obtain ⟨x, t, hws⟩ : ∃ x t, ws = x :: t := by
    cases ws with
    | nil => simp at hl; omega
    | cons x t => exact ⟨x, t, rfl⟩
  subst hws
  obtain ⟨m, hm⟩ : ∃ m, n = m + 1 := ⟨n - 1, by omega⟩
  subst hm
  have htl : t.length = m := by simpa using hl
  have y0 : w.cell? ⟨b, o, none⟩ = some (.int .u64 x) := by simpa using h.at_ (j := 0) (by omega)
  have hx := wf_u (h.wf x (by simp))
  have hlt : Hid (b < w.heap.size) := Lib.hid (World.block_lt_of_cell? w _ y0)
  have hP := Lib.hid (parts_any x hx w)
  have HZ := Lib.hid h
  have hm0 : (0 : Int) < (m : Int) + 1 := by omega
  have hm1 : (1 : Int) ≤ (m : Int) + 1 := by omega
  have hm2 : (m : Int) + 1 ≤ (c : Int) := by omega
  clear h hl
  cases hp : ptB x with
  | false =>
    rw [hp] at hP
    have HV : Hid (nxO (x :: t) = (x, t)) := Lib.hid (by unfold nxO; dsimp only; rw [if_pos (.inl hp)])
    go_enter Tryz.func65, Tryz.ntmps65
    go_upto_region 3 with (go_at_call 97; (with_reducible refine hP.out.mono ?_); rintro e w1 ⟨rfl, hb1⟩; replace hb1 := Lib.hid hb1)
    have y1 := (hb1.out.cell (p := ⟨b, o, none⟩) hlt.out).trans y0
    clear y0
    go_quiet (fail)
    go_wp2
    · exact bodyPost_ret (v := .tuple #[.int .u64 x, .slice (some ⟨b, o, none⟩) m 0]) (by simp [results, Tryz.results65, go_sem]) rfl ⟨_, _, _, by rw [HV.out], by rw [HV.out]; exact nx_zs (j := 0) HZ.out (below_drewN hb1.out _) (by omega) (by omega) rfl (by omega), by omega, below_drewN hb1.out _⟩
    · exact bodyPost_ret (v := .tuple #[.int .u64 x, .slice (some ⟨b, o + 1, none⟩) m (c - 1)]) (by simp [results, Tryz.results65, go_sem]) rfl ⟨_, _, _, by rw [HV.out], by rw [HV.out]; exact nx_zs (j := 0) HZ.out (below_drewN hb1.out _) (by omega) (by omega) rfl (by omega), by omega, below_drewN hb1.out _⟩
  | true =>
    rw [hp] at hP
    by_cases hk : x / 8 % 8 = 0
    · have HV : Hid (nxO (x :: t) = (x, t)) := Lib.hid (by unfold nxO; dsimp only; rw [if_pos (.inr hk)])
      have hd : (x / 8 % 8 == 0) = true := by rw [hk]; rfl
      clear hk
      simp only [if_true] at hP
      generalize x / 8 % 8 = K at *
      generalize x / 64 = s at *
      go_enter Tryz.func65, Tryz.ntmps65
      go_upto_region 3 with (go_at_call 97; (with_reducible refine hP.out.mono ?_); rintro e w1 ⟨rfl, hb1⟩; replace hb1 := Lib.hid hb1)
      have y1 := (hb1.out.cell (p := ⟨b, o, none⟩) hlt.out).trans y0
      clear y0
      go_quiet (fail)
      go_wp2
      · exact bodyPost_ret (v := .tuple #[.int .u64 x, .slice (some ⟨b, o, none⟩) m 0]) (by simp [results, Tryz.results65, go_sem]) rfl ⟨_, _, _, by rw [HV.out], by rw [HV.out]; exact nx_zs (j := 0) HZ.out (below_drewN hb1.out _) (by omega) (by omega) rfl (by omega), by omega, below_drewN hb1.out _⟩
      · exact bodyPost_ret (v := .tuple #[.int .u64 x, .slice (some ⟨b, o + 1, none⟩) m (c - 1)]) (by simp [results, Tryz.results65, go_sem]) rfl ⟨_, _, _, by rw [HV.out], by rw [HV.out]; exact nx_zs (j := 0) HZ.out (below_drewN hb1.out _) (by omega) (by omega) rfl (by omega), by omega, below_drewN hb1.out _⟩
    · have hd : (x / 8 % 8 == 0) = false := beq_eq_false_iff_ne.2 hk
      obtain ⟨s, hs⟩ : ∃ s : Nat, x / 64 = (s : Int) := ⟨(x / 64).toNat, by omega⟩
      have hs0 : s ≤ 1000000000000000000 := by omega
      have HV : Hid (nxO (x :: t) = if x / 8 % 8 = 5 ∧ 0 < min s m then (t.getD 0 0, t.drop s) else (x, t.drop s)) := Lib.hid (by unfold nxO; dsimp only; rw [if_neg (by rw [hp]; intro h; rcases h with h | h; cases h; exact hk h), hs, Int.toNat_natCast, htl])
      simp only [if_true] at hP
      rw [hs] at hP
      clear hs hk
      obtain ⟨K, hK⟩ : ∃ K, x / 8 % 8 = K := ⟨_, rfl⟩
      rw [hK] at HV hP hd
      clear hK
      have hdr : t.drop s = t.drop (min s m) := by
        by_cases e : s ≤ m
        · rw [Nat.min_eq_left e]
        · rw [List.drop_of_length_le (by omega), List.drop_of_length_le (by omega)]
      rw [hdr] at HV
      clear hdr
      have y2 : 0 < m → w.cell? ⟨b, o + 1, none⟩ = some (.int .u64 (t.getD 0 0)) := fun hm => by simpa using HZ.out.at_ (j := 1) (by omega)
      obtain ⟨z, hz⟩ : ∃ z, t.getD 0 0 = z := ⟨_, rfl⟩
      rw [hz] at HV y2
      clear hz
      by_cases hms : m < s
      · rw [Nat.min_eq_right (by omega)] at HV
        have hmi : (if (m : Int) < (s : Int) then (m : Int) else (s : Int)) = (m : Int) := by rw [if_pos (by omega)]
        have hlo : decide ((m : Int) < (s : Int)) = true := by simp; omega
        have hto : (1 + (m : Int)).toNat = m + 1 := by omega
        have hmx : max (1 + (m : Int)) 0 = 1 + (m : Int) := by omega
        by_cases hk5 : K = 5
        · subst hk5
          by_cases hj : 0 < m
          · rw [if_pos ⟨rfl, hj⟩] at HV
            have y3 := Lib.hid (y2 (by omega))
            have hj1 : (1 : Int) < 1 + (m : Int) := by omega
            clear y2
            go_enter Tryz.func65, Tryz.ntmps65
            go_upto_region 3 with (go_at_call 97; (with_reducible refine hP.out.mono ?_); rintro e w1 ⟨rfl, hb1⟩; replace hb1 := Lib.hid hb1)
            have y1 := (hb1.out.cell (p := ⟨b, o, none⟩) hlt.out).trans y0
            clear y0
            replace y3 := (hb1.out.cell (p := ⟨b, o + 1, none⟩) hlt.out).trans y3.out
            go_quiet (fail)
            go_wp2
            · exact bodyPost_ret (v := .tuple #[.int .u64 z, .slice (some ⟨b, o, none⟩) 0 0]) (by simp [results, Tryz.results65, go_sem]) rfl ⟨_, _, _, by rw [HV.out], by rw [HV.out]; exact nx_zs (j := m) HZ.out (below_drewN hb1.out _) (by omega) (by omega) (by omega) (by omega), by omega, below_drewN hb1.out _⟩
            · exact bodyPost_ret (v := .tuple #[.int .u64 z, .slice (some ⟨b, o + (m + 1), none⟩) 0 (c - (m + 1))]) (by simp [results, Tryz.results65, go_sem]) rfl ⟨_, _, _, by rw [HV.out], by rw [HV.out]; exact nx_zs (j := m) HZ.out (below_drewN hb1.out _) (by omega) (by omega) (by omega) (by omega), by omega, below_drewN hb1.out _⟩
          · replace hj : m = 0 := by omega
            rw [if_neg (fun h => by omega)] at HV
            subst hj
            clear y2
            go_enter Tryz.func65, Tryz.ntmps65
            go_upto_region 3 with (go_at_call 97; (with_reducible refine hP.out.mono ?_); rintro e w1 ⟨rfl, hb1⟩; replace hb1 := Lib.hid hb1)
            have y1 := (hb1.out.cell (p := ⟨b, o, none⟩) hlt.out).trans y0
            clear y0
            go_quiet (fail)
            go_wp2
            · exact bodyPost_ret (v := .tuple #[.int .u64 x, .slice (some ⟨b, o, none⟩) 0 0]) (by simp [results, Tryz.results65, go_sem]) rfl ⟨_, _, _, by rw [HV.out], by rw [HV.out]; exact nx_zs (j := 0) HZ.out (below_drewN hb1.out _) (by omega) (by omega) (by omega) (by omega), by omega, below_drewN hb1.out _⟩
            · exact bodyPost_ret (v := .tuple #[.int .u64 x, .slice (some ⟨b, o + 1, none⟩) 0 (c - 1)]) (by simp [results, Tryz.results65, go_sem]) rfl ⟨_, _, _, by rw [HV.out], by rw [HV.out]; exact nx_zs (j := 0) HZ.out (below_drewN hb1.out _) (by omega) (by omega) (by omega) (by omega), by omega, below_drewN hb1.out _⟩
        · rw [if_neg (fun h => hk5 h.1)] at HV
          have hd5 : (K == 5) = false := beq_eq_false_iff_ne.2 hk5
          clear hk5
          clear y2
          go_enter Tryz.func65, Tryz.ntmps65
          go_upto_region 3 with (go_at_call 97; (with_reducible refine hP.out.mono ?_); rintro e w1 ⟨rfl, hb1⟩; replace hb1 := Lib.hid hb1)
          have y1 := (hb1.out.cell (p := ⟨b, o, none⟩) hlt.out).trans y0
          clear y0
          go_quiet (fail)
          go_wp2
          · exact bodyPost_ret (v := .tuple #[.int .u64 x, .slice (some ⟨b, o, none⟩) 0 0]) (by simp [results, Tryz.results65, go_sem]) rfl ⟨_, _, _, by rw [HV.out], by rw [HV.out]; exact nx_zs (j := m) HZ.out (below_drewN hb1.out _) (by omega) (by omega) (by omega) (by omega), by omega, below_drewN hb1.out _⟩
          · exact bodyPost_ret (v := .tuple #[.int .u64 x, .slice (some ⟨b, o + (m + 1), none⟩) 0 (c - (m + 1))]) (by simp [results, Tryz.results65, go_sem]) rfl ⟨_, _, _, by rw [HV.out], by rw [HV.out]; exact nx_zs (j := m) HZ.out (below_drewN hb1.out _) (by omega) (by omega) (by omega) (by omega), by omega, below_drewN hb1.out _⟩
      · rw [Nat.min_eq_left (by omega)] at HV
        have hmi : (if (m : Int) < (s : Int) then (m : Int) else (s : Int)) = (s : Int) := by rw [if_neg (by omega)]
        have hlo : decide ((m : Int) < (s : Int)) = false := by simp; omega
        have hto : (1 + (s : Int)).toNat = s + 1 := by omega
        have hmx : max (1 + (s : Int)) 0 = 1 + (s : Int) := by omega
        by_cases hk5 : K = 5
        · subst hk5
          by_cases hj : 0 < s
          · rw [if_pos ⟨rfl, hj⟩] at HV
            have y3 := Lib.hid (y2 (by omega))
            have hj1 : (1 : Int) < 1 + (s : Int) := by omega
            clear y2
            go_enter Tryz.func65, Tryz.ntmps65
            go_upto_region 3 with (go_at_call 97; (with_reducible refine hP.out.mono ?_); rintro e w1 ⟨rfl, hb1⟩; replace hb1 := Lib.hid hb1)
            have y1 := (hb1.out.cell (p := ⟨b, o, none⟩) hlt.out).trans y0
            clear y0
            replace y3 := (hb1.out.cell (p := ⟨b, o + 1, none⟩) hlt.out).trans y3.out
            go_quiet (fail)
            go_wp2
            · exact bodyPost_ret (v := .tuple #[.int .u64 z, .slice (some ⟨b, o, none⟩) (m - s) 0]) (by simp [results, Tryz.results65, go_sem]) rfl ⟨_, _, _, by rw [HV.out], by rw [HV.out]; exact nx_zs (j := s) HZ.out (below_drewN hb1.out _) (by omega) (by omega) (by omega) (by omega), by omega, below_drewN hb1.out _⟩
            · exact bodyPost_ret (v := .tuple #[.int .u64 z, .slice (some ⟨b, o + (s + 1), none⟩) (m - s) (c - (s + 1))]) (by simp [results, Tryz.results65, go_sem]) rfl ⟨_, _, _, by rw [HV.out], by rw [HV.out]; exact nx_zs (j := s) HZ.out (below_drewN hb1.out _) (by omega) (by omega) (by omega) (by omega), by omega, below_drewN hb1.out _⟩
          · replace hj : s = 0 := by omega
            rw [if_neg (fun h => by omega)] at HV
            subst hj
            clear y2
            go_enter Tryz.func65, Tryz.ntmps65
            go_upto_region 3 with (go_at_call 97; (with_reducible refine hP.out.mono ?_); rintro e w1 ⟨rfl, hb1⟩; replace hb1 := Lib.hid hb1)
            have y1 := (hb1.out.cell (p := ⟨b, o, none⟩) hlt.out).trans y0
            clear y0
            go_quiet (fail)
            go_wp2
            · exact bodyPost_ret (v := .tuple #[.int .u64 x, .slice (some ⟨b, o, none⟩) m 0]) (by simp [results, Tryz.results65, go_sem]) rfl ⟨_, _, _, by rw [HV.out], by rw [HV.out]; exact nx_zs (j := 0) HZ.out (below_drewN hb1.out _) (by omega) (by omega) (by omega) (by omega), by omega, below_drewN hb1.out _⟩
            · exact bodyPost_ret (v := .tuple #[.int .u64 x, .slice (some ⟨b, o + 1, none⟩) m (c - 1)]) (by simp [results, Tryz.results65, go_sem]) rfl ⟨_, _, _, by rw [HV.out], by rw [HV.out]; exact nx_zs (j := 0) HZ.out (below_drewN hb1.out _) (by omega) (by omega) (by omega) (by omega), by omega, below_drewN hb1.out _⟩
        · rw [if_neg (fun h => hk5 h.1)] at HV
          have hd5 : (K == 5) = false := beq_eq_false_iff_ne.2 hk5
          clear hk5
          clear y2
          go_enter Tryz.func65, Tryz.ntmps65
          go_upto_region 3 with (go_at_call 97; (with_reducible refine hP.out.mono ?_); rintro e w1 ⟨rfl, hb1⟩; replace hb1 := Lib.hid hb1)
          have y1 := (hb1.out.cell (p := ⟨b, o, none⟩) hlt.out).trans y0
          clear y0
          go_quiet (fail)
          go_wp2
          · exact bodyPost_ret (v := .tuple #[.int .u64 x, .slice (some ⟨b, o, none⟩) (m - s) 0]) (by simp [results, Tryz.results65, go_sem]) rfl ⟨_, _, _, by rw [HV.out], by rw [HV.out]; exact nx_zs (j := s) HZ.out (below_drewN hb1.out _) (by omega) (by omega) (by omega) (by omega), by omega, below_drewN hb1.out _⟩
          · exact bodyPost_ret (v := .tuple #[.int .u64 x, .slice (some ⟨b, o + (s + 1), none⟩) (m - s) (c - (s + 1))]) (by simp [results, Tryz.results65, go_sem]) rfl ⟨_, _, _, by rw [HV.out], by rw [HV.out]; exact nx_zs (j := s) HZ.out (below_drewN hb1.out _) (by omega) (by omega) (by omega) (by omega), by omega, below_drewN hb1.out _⟩
end Go.Proofs.YtejmmjedognaaaaGreat

namespace Go.Proofs.YtejmmjedognaaaaGreat
open Go.RowKit
open St

/-- Does a word lead out of a region? -/
def ouB (f : Frg) (x : Int) : Bool := decide (x % 8 = 4 ∨ x % 8 = 5) && decide (bhL f (ldZ x) = [])
def clF (f : Frg) : Nat → List Int → Bool
  | 0, _ => true
  | _ + 1, [] => true
  | k + 1, x :: t => !ouB f (nxO (x :: t)).1 && clF f k (nxO (x :: t)).2
def clR (f : Frg) : Bool := clF f f.ws.length f.ws
set_option maxRecDepth 100000 in
theorem nx_len (x : Int) (t : List Int) : (nxO (x :: t)).2.length ≤ t.length := by
  unfold nxO
  dsimp only
  split
  · exact Nat.le_refl _
  · split <;> (simp only [List.length_drop]; omega)
set_option maxRecDepth 100000 in
theorem nx_wd {ws : List Int} (h : ∀ y ∈ ws, Wd y) : Wd (nxO ws).1 := by
  cases ws with
  | nil => exact ⟨Int.le_refl _, by decide⟩
  | cons x t =>
    unfold nxO
    dsimp only
    split
    · exact h x (by simp)
    · split
      · rename_i hh
        cases t with
        | nil => simp at hh
        | cons y t => exact h y (by simp)
      · exact h x (by simp)
set_option maxRecDepth 100000 in
theorem clF_fuel (f : Frg) : ∀ (k m : Nat) (ws : List Int), ws.length ≤ k → ws.length ≤ m → clF f k ws = clF f m ws := by
  intro k
  induction k with
  | zero =>
    intro m ws hk _
    cases ws with
    | nil => cases m <;> rfl
    | cons x t => simp at hk
  | succ k ih =>
    intro m ws hk hm
    cases ws with
    | nil => cases m <;> rfl
    | cons x t =>
      cases m with
      | zero => simp at hm
      | succ m =>
        have h := nx_len x t
        simp only [List.length_cons] at hk hm
        show (!ouB f (nxO (x :: t)).1 && clF f k (nxO (x :: t)).2) = (!ouB f (nxO (x :: t)).1 && clF f m (nxO (x :: t)).2)
        rw [ih m _ (by omega) (by omega)]

def slLen (v : Value) : Nat := match v with | .slice _ n _ => n | _ => 0
set_option maxRecDepth 100000 in
theorem clF_step (f : Frg) (n k : Nat) (rest : List Int) (hn : rest.length = n) (h0 : 0 < n) (hk : (nxO rest).2.length = k) : k < n ∧ clF f n rest = (!ouB f (nxO rest).1 && clF f k (nxO rest).2) := by
  cases rest with
  | nil => simp at hn; omega
  | cons x t =>
    have h1 := nx_len x t
    simp only [List.length_cons] at hn
    refine ⟨by omega, ?_⟩
    subst hn
    rw [← clF_fuel f t.length k _ h1 (by omega)]
    rfl
structure Fb (w : World) (D : Nat) (r : FR) : Prop where
  blk : w.heap[D]? = some (.cells #[.int .i64 r.at_, .slice r.A r.n r.c] 24 (0, 0))
namespace Fb
variable {w w' : World} {D : Nat} {r : FR}
set_option maxRecDepth 100000 in
theorem lt (h : Fb w D r) : D < w.heap.size := (Array.getElem?_eq_some_iff.1 h.blk).1
set_option maxRecDepth 100000 in
theorem below (h : Fb w D r) {M : Nat} (hb : Below M w w') (hD : D < M) : Fb w' D r := ⟨(hb.block D hD).trans h.blk⟩
set_option maxRecDepth 100000 in
theorem c0 (h : Fb w D r) : w.cell? ⟨D, 0, none⟩ = some (.int .i64 r.at_) := (cell_of_row w D 0 _ _ (0, 0) h.blk).trans rfl
set_option maxRecDepth 100000 in
theorem c1 (h : Fb w D r) : w.cell? ⟨D, 1, none⟩ = some (.slice r.A r.n r.c) := (cell_of_row w D 1 _ _ (0, 0) h.blk).trans rfl
end Fb

set_option maxRecDepth 100000 in
set_option maxRecDepth 100000 in
set_option maxHeartbeats 8000000 in
theorem closed_any {w : World} {r : FR} {f : Frg} (h : FV w r f) (hn : r.n ≤ 1000) :
    Calls Tryz.prog 32 #[.agg #[.int .i64 r.at_, .slice r.A r.n r.c]] w fun e w' => e = .returned (.bool (clR f)) ∧ Below w.heap.size w w' := by
  obtain ⟨ra, rA, rn, rc⟩ := r
  simp only at hn ⊢
  obtain ⟨wa, hwa⟩ : ∃ wa, wa = w.alloc (.cells #[.int .i64 ra, .slice rA rn rc] 24) := ⟨_, rfl⟩
  have hba : Below w.heap.size w wa := by rw [hwa]; exact (Below.refl _ w).alloc (Nat.le_refl _) _
  have fb : Fb wa w.heap.size ⟨ra, rA, rn, rc⟩ := ⟨by rw [hwa]; exact heap_alloc_new w _⟩
  have H0 : Hid (Below w.heap.size w wa ∧ FV wa ⟨ra, rA, rn, rc⟩ f ∧ Fb wa w.heap.size ⟨ra, rA, rn, rc⟩) := Lib.hid ⟨hba, h.below hba, fb⟩
  have c0 := fb.c0
  have c1 := fb.c1
  obtain ⟨res, hres⟩ : ∃ res, res = clR f := ⟨_, rfl⟩
  rw [← hres]
  have hl : Hid (rn = f.ws.length) := Lib.hid h.ws.len.symm
  simp only at c0 c1
  clear h hba fb
  go_enter Tryz.func32, Tryz.ntmps32
  go_upto_region 1 with fail
  rw [← hwa]
  clear hwa
  have H1 : Hid (clF f rn f.ws = res) := Lib.hid (by rw [hres, hl.out]; rfl)
  clear hres hl
  generalize hD : w.heap.size = D at *
  replace hD := Lib.hid hD
  go_wp2_with fail
  go_loopw [3] (fun v3 wx => ∃ A n c rest, v3 = .slice A n c ∧ n ≤ 1000 ∧ Hid (clF f n rest = res ∧ Zs .u64 wx A n c rest) ∧ Hid (Below D w wx ∧ FV wx ⟨ra, rA, rn, rc⟩ f ∧ Fb wx D ⟨ra, rA, rn, rc⟩)) (fun v3 _ => slLen v3)
  case atStart => exact ⟨rA, rn, rc, f.ws, rfl, hn, Lib.hid ⟨H1.out, H0.out.2.1.ws⟩, H0⟩
  case round =>
    clear H0 H1 c0 c1
    obtain ⟨A, n, c, rest, rfl, hn1, HR, H⟩ := hrel
    have q0 := H.out.2.2.c0
    have q1 := H.out.2.2.c1
    by_cases hn0 : 0 < n
    · have hd1 : decide (0 < (n : Int)) = true := decide_eq_true (by omega)
      have HN := Lib.hid (next_any HR.out.2 hn0 hn1)
      have hwd : Wd (nxO rest).1 := nx_wd (fun y hy => wf_u (HR.out.2.wf y hy))
      have HS := Lib.hid (fun k hk => clF_step f n k rest HR.out.2.len hn0 hk)
      generalize hx : (nxO rest).1 = x at *
      clear hx
      have HT := Lib.hid (fun w => tag_any x hwd w)
      have HL := Lib.hid (fun w => load_any x hwd w)
      have hld := Lib.hid (ldZ_in hwd)
      go_upto_region 5 with (go_at_call 65; (with_reducible refine HN.out.mono ?_); rintro e w1 ⟨B, k, c', rfl, hz1, hk, hb1⟩; replace hz1 := Lib.hid hz1; replace hb1 := Lib.hid hb1)
      obtain ⟨hkn, hst⟩ := HS.out k hz1.out.len
      rw [HR.out.1] at hst
      have hb2 : Below D w w1 := H.out.1.trans (hb1.out.mono (by have h9 := H.out.1.size; rw [hD.out] at h9; exact h9))
      have HBh := Lib.hid (fun q => behind_any (((H.out.2.1.below hb1.out)).drewN q) (ldZ x) hld.out)
      have KV : Hid (∀ w', Below w1.heap.size w1 w' → w'.cell? ⟨D, 0, none⟩ = some (.int .i64 ra) ∧ w'.cell? ⟨D, 1, none⟩ = some (.slice rA rn rc)) := Lib.hid (fun w' hb => (have h8 := H.out.2.2.below hb1.out H.out.2.2.lt; have h9 := h8.below hb h8.lt; ⟨h9.c0, h9.c1⟩))
      have HE := Lib.hid (And.intro hb2 (And.intro (H.out.2.1.below hb1.out) (H.out.2.2.below hb1.out H.out.2.2.lt)))
      have hk1 : k ≤ 1000 := by omega
      clear HS HN HR H q0 q1 hb2 hb1
      by_cases h45 : x % 8 = 4 ∨ x % 8 = 5
      · have hd : (x % 8 == 4) = true ∨ ((x % 8 == 4) = false ∧ (x % 8 == 5) = true) := by
          rcases h45 with e | e
          · exact .inl (by rw [e]; rfl)
          · exact .inr ⟨by rw [e]; rfl, by rw [e]; rfl⟩
        have hou : ouB f x = decide (bhL f (ldZ x) = []) := by unfold ouB; rw [decide_eq_true h45, Bool.true_and]
        rw [hou] at hst
        clear hou h45
        rcases hd with hd | ⟨hd, hd2⟩
        all_goals
          go_upto_region 6 with (go_at_call 52; (with_reducible refine (HT.out _).mono ?_); rintro e w4 ⟨rfl, rfl⟩)
          go_region_held3 (fun w' => w'.cell? ⟨D, 0, none⟩ = some (.int .i64 ra) ∧ w'.cell? ⟨D, 1, none⟩ = some (.slice rA rn rc)) (first | exact KV.out _ (bel_drewN w1 _) | exact KV.out _ ((bel_drewN w1 _).trans hb3) | (trace_state; fail)) (first
            | (go_at_call 54; refine (HL.out _).mono ?_; rintro e w2 ⟨rfl, rfl⟩)
            | (go_at_call 66; refine (HBh.out _).mono ?_; rintro e w3 ⟨A3, n3, c3, rfl, hz3, hb3⟩))
          have HF : Hid (Below D w w3 ∧ FV w3 ⟨ra, rA, rn, rc⟩ f ∧ Fb w3 D ⟨ra, rA, rn, rc⟩ ∧ Zs .u64 w3 B k c' (nxO rest).2) := Lib.hid (by
            have h8 : Below w1.heap.size w1 w3 := (bel_drewN w1 _).trans hb3
            exact ⟨HE.out.1.trans (h8.mono (by have h9 := HE.out.1.size; rw [hD.out] at h9; exact h9)), HE.out.2.1.below h8, HE.out.2.2.below h8 HE.out.2.2.lt, hz1.out.below h8⟩)
          have hl3 := Lib.hid hz3.len
          clear hb3 hz3 hz1 HE KV HBh HT HL hld
          by_cases hn3 : n3 = 0
          · have hd5 : ((n3 : Int) == 0) = true := by rw [hn3]; rfl
            have HV : Hid (res = false) := Lib.hid (by
              have h9 := hl3.out
              rw [hn3] at h9
              rw [hst, decide_eq_true (List.eq_nil_of_length_eq_zero h9)]
              rfl)
            clear hst hn3
            go_wp2
            go_ret
            exact ⟨by rw [HV.out]; rfl, by rw [hD.out]; exact HF.out.1⟩
          · have hd5 : ((n3 : Int) == 0) = false := beq_eq_false_iff_ne.2 (by omega)
            have HV : Hid (clF f k (nxO rest).2 = res) := Lib.hid (by
              have h9 := hl3.out
              rw [hst, decide_eq_false (fun e => by rw [e] at h9; exact hn3 h9.symm)]
              rfl)
            clear hst hn3
            go_wp2_with fail
            exact ⟨⟨B, k, c', _, rfl, hk1, Lib.hid ⟨HV.out, HF.out.2.2.2⟩, Lib.hid ⟨HF.out.1, HF.out.2.1, HF.out.2.2.1⟩⟩, hkn⟩
      · have hd : (x % 8 == 4) = false := beq_eq_false_iff_ne.2 (fun e => h45 (.inl e))
        have hd2 : (x % 8 == 5) = false := beq_eq_false_iff_ne.2 (fun e => h45 (.inr e))
        have hou : ouB f x = false := by unfold ouB; rw [decide_eq_false h45, Bool.false_and]
        rw [hou] at hst
        replace hst : Hid (clF f k (nxO rest).2 = res) := Lib.hid (by rw [hst]; rfl)
        clear hou h45
        go_upto_region 6 with (go_at_call 52; (with_reducible refine (HT.out _).mono ?_); rintro e w4 ⟨rfl, rfl⟩)
        obtain ⟨q0, q1⟩ := KV.out w1 (Below.refl _ _)
        go_quiet (fail)
        have HF : Hid (∀ q, Below D w (w1.drewN q) ∧ FV (w1.drewN q) ⟨ra, rA, rn, rc⟩ f ∧ Fb (w1.drewN q) D ⟨ra, rA, rn, rc⟩ ∧ Zs .u64 (w1.drewN q) B k c' (nxO rest).2) := Lib.hid (fun q => by
          have h8 : Below w1.heap.size w1 (w1.drewN q) := bel_drewN w1 _
          exact ⟨HE.out.1.trans (h8.mono (by have h9 := HE.out.1.size; rw [hD.out] at h9; exact h9)), HE.out.2.1.below h8, HE.out.2.2.below h8 HE.out.2.2.lt, hz1.out.below h8⟩)
        go_wp2_with fail
        exact ⟨⟨B, k, c', _, rfl, hk1, Lib.hid ⟨hst.out, (HF.out _).2.2.2⟩, Lib.hid ⟨(HF.out _).1, (HF.out _).2.1, (HF.out _).2.2.1⟩⟩, hkn⟩
    · have e : n = 0 := by omega
      subst e
      have HV : Hid (res = true) := Lib.hid (by rw [← HR.out.1]; rfl)
      go_wp2
      go_ret
      exact ⟨by rw [HV.out]; rfl, by rw [hD.out]; exact H.out.1⟩
end Go.Proofs.YtejmmjedognaaaaGreat

namespace Go.Proofs.YtejmmjedognaaaaGreat
open Go.RowKit
open St

set_option maxRecDepth 100000 in
theorem und_bytesS : Tryz.prog.underlying 163 = some (.slice 5) := by kernel_rfl
set_option maxRecDepth 100000 in
theorem info_byteS : (Tryz.prog.info? 5).map (fun i => (i.zero, i.size, i.bytes)) = some (some (.int .u8 0), 1, 1) := by kernel_rfl
set_option maxRecDepth 100000 in
theorem info_byteS' : ∃ i, Tryz.prog.info? 5 = some i ∧ i.zero = some (.int .u8 0) ∧ i.size = 1 ∧ i.bytes = 1 := by
  have h := info_byteS
  cases hi : Tryz.prog.info? 5 with
  | none => rw [hi] at h; simp at h
  | some i => rw [hi] at h; simp at h; exact ⟨i, rfl, h.1, h.2.1, h.2.2⟩

set_option maxRecDepth 100000 in
/-- make([]byte, n): a new row of n cells. -/
theorem bytes_made (n : Nat) (hn : n ≤ 100000) : ∃ M : Array Value, M.size = n ∧ ∀ w : World,
    (Instr.makeSlice 163 (.int .i64 (n : Int)) (.int .i64 (n : Int))).run Tryz.prog w = .ok (.slice (some ⟨w.heap.size, 0, none⟩) n n) (w.alloc (.cells M 5)) := by
  obtain ⟨i, hi, hz, hs, hb⟩ := info_byteS'
  refine ⟨madeCells (Value.int .u8 0).cells ((n : Int).toNat * i.size), by rw [size_madeCells, hs]; omega, fun w => ?_⟩
  exact run_make (P := Tryz.prog) w 163 5 i (.int .u8 0) und_bytesS hi hz .i64 .i64 n n (by omega) (by omega) (by rw [hb]; omega) (by omega)
set_option maxRecDepth 100000 in
/-- copy(row, text), the row as long as the text. -/
theorem bytes_copied {w : World} {g : Nat} {M : Array Value} {s : ByteArray} (hg : w.heap[g]? = some (.cells M 5 (0, 0))) (hM : M.size = s.size) :
    ∃ Y : Array Value, Y.toList = Lib.byteCells s.data.toList ∧ (Builtin.copy_ #[163, 9] 3 #[.slice (some ⟨g, 0, none⟩) s.size s.size, .string s]).run Tryz.prog w = .ok (goInt s.size) (w.setRow g Y) := by
  obtain ⟨i, hi, _, hs, _⟩ := info_byteS'
  refine ⟨_, ?_, Lib.run_copy_row_string w _ _ _ _ g 0 s.size s.size s M _ und_bytesS (by rw [hi, Option.map_some, hs]) hg (Nat.le_refl _) (by omega)⟩
  have h1 : M.toList.drop (0 + s.size) = [] := List.drop_eq_nil_of_le (by rw [Array.length_toList, hM]; omega)
  simp only [h1, List.take_zero, List.nil_append, List.append_nil]
set_option maxRecDepth 100000 in
/-- unsafe.String over such a row is the text. -/
theorem bytes_text {w : World} {g : Nat} {Y : Array Value} {s : ByteArray} (hg : w.heap[g]? = some (.cells Y 5 (0, 0))) (hY : Y.toList = Lib.byteCells s.data.toList) (h0 : 0 < s.size) (hs : s.size ≤ 100000) :
    (Builtin.unsafeString_ #[165, 3] 9 #[.pointer (some ⟨g, 0, none⟩), .int .i64 (s.size : Int)]).run Tryz.prog w = .ok (.string s) (w.freeze ⟨g, 0, none⟩ s.size) := by
  obtain ⟨i, hi, _, hz, _⟩ := info_byteS'
  have hl : s.data.toList.length = s.size := (Lib.size_eq s).symm
  have hYl : Y.size = s.size := by rw [← Array.length_toList, hY, Lib.byteCells_length, hl]
  have h := Lib.run_unsafeString_row (P := Tryz.prog) w 165 3 9 5 (by kernel_rfl) (by simp [Program.cellsOf, hi, hz]) g Y.size (by simp [World.shape?, hg]) s.data.toList
    (fun e => by rw [e] at hl; simp at hl; omega) (by omega) (by omega) (fun j x hx => by
      refine Lib.cells_of_row hg Y.size j _ ?_
      rw [List.take_of_length_le (Nat.le_of_eq Array.length_toList), hY]
      simp [Lib.byteCells, hx])
  rw [hl] at h
  exact h

set_option maxRecDepth 100000 in
set_option maxRecDepth 100000 in
set_option maxHeartbeats 2000000 in
theorem litClone_any (s : ByteArray) (hs : s.size ≤ 100000) (w : World) :
    Calls Tryz.prog 88 #[.string s] w fun r w' => r = .returned (.string s) ∧ Below w.heap.size w w' := by
  rcases Nat.eq_zero_or_pos s.size with h0 | h0
  · obtain rfl : s = ⟨#[]⟩ := ByteArray.ext (Array.eq_empty_of_size_eq_zero h0)
    go_enter Tryz.func88, Tryz.ntmps88
    go_wp2
    go_ret
    exact ⟨rfl, Below.refl _ _⟩
  · obtain ⟨M, hM, hmake⟩ := bytes_made s.size hs
    obtain ⟨Y, hY, hcopy⟩ := bytes_copied (w := w.alloc (.cells M 5)) (heap_alloc_new w _) hM
    have htext := bytes_text (setRow_heap (w.alloc (.cells M 5)) w.heap.size M Y _ _ (heap_alloc_new w _)) hY h0 hs
    have hYl : Y.size = s.size := by rw [← Array.length_toList, hY, Lib.byteCells_length, ← Lib.size_eq]
    have BB := Lib.hid (Lib.below_freeze (B := w.heap.size) (a := w) (w := (w.alloc (.cells M 5)).setRow w.heap.size Y) (p := ⟨w.heap.size, 0, none⟩)
      ⟨rfl, rfl, rfl, by simp, fun k hk => by rw [setRow_other _ _ _ _ (by omega)]; exact ((Below.refl _ w).alloc (Nat.le_refl _) _).block k hk⟩ (Nat.le_refl _))
    have hne : ¬ s.size = 0 := by omega
    clear hY
    go_enter Tryz.func88, Tryz.ntmps88
    go_wp2
    go_ret
    exact ⟨rfl, BB.out _⟩
set_option maxRecDepth 100000 in
theorem sclone_any (s : ByteArray) (hs : s.size ≤ 100000) (w : World) :
    Calls Tryz.prog 58 #[.string s] w fun r w' => r = .returned (.string s) ∧ Below w.heap.size w w' := by
  go_enter Tryz.func58, Tryz.ntmps58
  go_wp2_with (go_at_call 88; (with_reducible refine (litClone_any s hs _).mono ?_); rintro r w1 ⟨rfl, hb⟩)
  go_ret
  exact ⟨rfl, hb⟩
end Go.Proofs.YtejmmjedognaaaaGreat
