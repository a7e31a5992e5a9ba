/-
  PACKAGE weigh, AND WHAT THE LAWS HOLD TERMS AGAINST: parts, ownWeight.
-/
import Derived.Test.YtbpihjcghmmacaaTmB
import Derived.Deep.DeepCutAuto
namespace Go.Proofs.Ytbpihjcghmmacaa
open Go.RowKit

set_option maxHeartbeats 1000000 in
theorem own_any (w : World) (r : TR) (t : Tm) (h : TV w r t) (ho : t.Ok) (own : Nat) (hown : own = if t.kind = 2 then 1 + t.mag.length else if t.kind = 9 then 1 + t.bytes.size / 8 else 1) :
    Calls Try.prog 64 #[.agg #[.int .i64 r.k, .int .i64 r.n, .bool r.g, .slice r.A r.ln r.lc, .int .u64 r.u, .string r.s, .slice r.B r.m r.d]] w fun e w' => e = .returned (.int .i64 (own : Int)) ∧ Below w.heap.size w w' := by
  have hl : r.ln ≤ 40 := by rw [← h.magLen]; cases t; exact (Tm.ok_mk.1 ho).1
  have hs : r.s.size ≤ 1000 := by rw [← h.bytes]; cases t; exact (Tm.ok_mk.1 ho).2.1
  rw [h.kind, h.magLen, h.bytes] at hown
  have H := Lib.hid hown
  clear hown
  go_enter Try.func64, Try.ntmps64
  go_wp2
  all_goals
    go_ret
    refine ⟨?_, (Below.refl _ _).alloc (Nat.le_refl _) _⟩
    have H' := H.out
    simp_all


theorem t_big {w : World} {r : TR} {t : Tm} (h : TV w r t) : t.big = (decide (1000 < r.s.size) || decide (40 < r.ln)) := by
  rw [← h.bytes, ← h.magLen]
  cases t
  rfl
theorem prts_step {ts : List Tm} {j : Nat} {t : Tm} {most z : Int} (e : ts[j]? = some t) (hz : z = Tm.prts (ts.take j) 0 most) (hle : z ≤ most) :
    Tm.prts (ts.take (j + 1)) 0 most = if t.big then most + 1 else z + 1 + t.prt (most - z - 1) := by
  rw [List.take_add_one, e, Tm.prts_append, ← hz, if_pos hle]
  simp only [Option.toList, Tm.prts]
  rw [if_pos hle]
theorem prts_end {ts : List Tm} {j : Nat} {most z : Int} (hz : z = Tm.prts (ts.take j) 0 most) (h : most < z ∨ ts.length ≤ j) : Tm.prts ts 0 most = z := by
  have := Tm.prts_append (ts.take j) (ts.drop j) 0 most
  rw [List.take_append_drop, ← hz] at this
  rw [this]
  rcases h with h | h
  · rw [if_neg (by omega)]
  · rw [List.drop_eq_nil_of_le h]
    split
    · rw [Tm.prts]
    · rfl

set_option maxHeartbeats 1000000 in
theorem parts_args (t : Tm) : ∀ (w : World) (B : Option Addr) (m d : Nat), TVs w B m d t.args → ∀ most : Int, -1 ≤ most → most ≤ 1000000 →
    Calls Try.prog 32 #[.slice B m d, .int .i64 most] w fun e w' => e = .returned (.int .i64 (Tm.prts t.args 0 most)) ∧ Below w.heap.size w w' := by
  induction t using Tm.ind with
  | h k n g l u s ks ih =>
    intro w B m d hts most hm0 hm1
    have IH := Lib.hid ih
    clear ih
    rw [show (Tm.mk k n g l u s ks).args = ks from rfl] at hts ⊢
    obtain ⟨R, hR⟩ : ∃ R, R = Tm.prts ks 0 most := ⟨_, rfl⟩
    rw [← hR]
    have HR := Lib.hid hR
    clear hR
    have hml : m ≤ maxLen := Nat.le_trans hts.md hts.dd
    have hml' : (m : Int) ≤ 9223372036854775807 := by unfold maxLen at hml; omega
    go_enter Try.func32, Try.ntmps32
    go_wp2_with fail
    go_loopw [5, 6] (fun n i w' => ∃ (j : Nat) (z : Int), j ≤ m ∧ i = .int .i64 (j : Int) ∧ n = .int .i64 z ∧ 0 ≤ z ∧ z ≤ most + 1 ∧ Hid (z = Tm.prts (ks.take j) 0 most) ∧ Below w.heap.size w w') (fun _ i _ => m - (intOf i).toNat)
    case atStart => exact ⟨0, 0, Nat.zero_le _, rfl, rfl, by omega, by omega, Lib.hid (by simp [Tm.prts]), Below.refl _ _⟩
    case round =>
      obtain ⟨j, z, hj, rfl, rfl, hz0, hz1, hz, hb⟩ := hrel
      by_cases hjm : j < m
      · by_cases hzm : z ≤ most
        · obtain ⟨b, o, r, t, e, hlt, h7, het, htv⟩ := (hts.below hb).get j hjm
          subst e
          have st := Lib.hid (prts_step het hz.out hzm)
          rw [t_big htv] at st
          have c5 := h7.c5
          have c3 := h7.c3
          have c6 := h7.c6
          by_cases h5 : 1000 < r.s.size
          · have hd : decide ((1000 : Int) < (r.s.size : Int)) = true := by rw [decide_eq_true_iff]; omega
            have hfin := Lib.hid (show R = most + 1 by
              rw [HR.out]
              refine prts_end (j := j + 1) (z := most + 1) ?_ (.inl (by omega))
              rw [st.out, if_pos (by simp [h5])])
            go_wp2_with fail
            go_ret
            exact ⟨by rw [hfin.out]; go_num, hb⟩
          · by_cases h3 : 40 < r.ln
            · have hd : decide ((1000 : Int) < (r.s.size : Int)) = false := by rw [decide_eq_false_iff_not]; omega
              have hd2 : decide ((40 : Int) < (r.ln : Int)) = true := by rw [decide_eq_true_iff]; omega
              have hfin := Lib.hid (show R = most + 1 by
                rw [HR.out]
                refine prts_end (j := j + 1) (z := most + 1) ?_ (.inl (by omega))
                rw [st.out, if_pos (by simp [h3])])
              go_wp2_with fail
              go_ret
              exact ⟨by rw [hfin.out]; go_num, hb⟩
            · have hd : decide ((1000 : Int) < (r.s.size : Int)) = false := by rw [decide_eq_false_iff_not]; omega
              have hd2 : decide ((40 : Int) < (r.ln : Int)) = false := by rw [decide_eq_false_iff_not]; omega
              have hst := Lib.hid (show Tm.prts (ks.take (j + 1)) 0 most = z + 1 + Tm.prts t.args 0 (most - z - 1) by
                rw [st.out, if_neg (by simp; omega)]
                cases t
                rw [Tm.prt]
                rfl)
              have hp := Tm.prts_bd t.args 0 (most - z - 1) (by omega) (by omega)
              go_wp2_with fail
              refine (IH.out t (List.mem_of_getElem? het) wr r.B r.m r.d htv.args (most - z - 1) (by omega) (by omega)).mono ?_
              generalize Tm.prts t.args 0 (most - z - 1) = q at hst hp ⊢
              rintro e w1 ⟨rfl, hb1⟩
              go_wp2_with fail
              exact ⟨⟨j + 1, z + 1 + q, by omega, by go_num, by go_num, by omega, by omega, Lib.hid hst.out.symm, hb.trans (hb1.mono hb.size)⟩, by simp [intOf]; omega⟩
        · have hfin := Lib.hid (show R = z by
            rw [HR.out]
            exact prts_end hz.out (.inl (by omega)))
          have hd : decide (z ≤ most) = false := by rw [decide_eq_false_iff_not]; exact hzm
          have hd1 : decide ((j : Int) < (m : Int)) = true := by rw [decide_eq_true_iff]; omega
          go_wp2_with fail
          go_ret
          exact ⟨by rw [hfin.out]; rfl, hb⟩
      · have hfin := Lib.hid (show R = z by
          rw [HR.out]
          exact prts_end hz.out (.inr (by rw [hts.len]; omega)))
        have hd1 : decide ((j : Int) < (m : Int)) = false := by rw [decide_eq_false_iff_not]; omega
        go_wp2_with fail
        go_ret
        exact ⟨by rw [hfin.out]; rfl, hb⟩


theorem parts_any (w : World) (B : Option Addr) (m d : Nat) (ts : List Tm) (h : TVs w B m d ts) (most : Int) (h0 : -1 ≤ most) (h1 : most ≤ 1000000) :
    Calls Try.prog 32 #[.slice B m d, .int .i64 most] w fun e w' => e = .returned (.int .i64 (Tm.prts ts 0 most)) ∧ Below w.heap.size w w' :=
  parts_args (.mk 0 0 false [] 0 ⟨#[]⟩ ts) w B m d h most h0 h1

/-- Are terms more than is gone through? -/
def greatB (ts : List Tm) (most : Int) : Bool := decide (most < Tm.prts ts 0 most)
theorem greatB_no {ts : List Tm} {most : Int} (h : greatB ts most = false) : (ts.length : Int) ≤ most ∧ ∀ t ∈ ts, t.Ok := by
  have h1 := of_decide_eq_false h
  obtain ⟨h2, h3⟩ := Tm.fine (ts := ts) (most := most) (by omega)
  exact ⟨by have := Tm.sizes_len ts; omega, h3⟩

set_option maxHeartbeats 1000000 in
theorem greats_any (w : World) (B : Option Addr) (m d : Nat) (ts : List Tm) (h : TVs w B m d ts) (most : Int) (h0 : -1 ≤ most) (h1 : most ≤ 1000000) :
    Calls Try.prog 27 #[.slice B m d, .int .i64 most] w fun e w' => e = .returned (.bool (greatB ts most)) ∧ Below w.heap.size w w' := by
  obtain ⟨g, hg⟩ : ∃ g, g = greatB ts most := ⟨_, rfl⟩
  rw [← hg]
  have HG := Lib.hid hg
  clear hg
  go_enter Try.func27, Try.ntmps27
  go_wp2_with fail
  refine (parts_any w B m d ts h most h0 h1).mono ?_
  have HG' : Hid (g = decide (most < Tm.prts ts 0 most)) := HG
  generalize Tm.prts ts 0 most = q at HG' ⊢
  rintro e w1 ⟨rfl, hb1⟩
  go_wp2_with fail
  go_ret
  exact ⟨by rw [HG'.out]; rfl, hb1⟩

/-- A row of one term, newly made. -/
theorem TVs.one {w : World} {r : TR} {t : Tm} (h : TV w r t) : TVs (w.alloc (.cells #[.int .i64 r.k, .int .i64 r.n, .bool r.g, .slice r.A r.ln r.lc, .int .u64 r.u, .string r.s, .slice r.B r.m r.d] 28)) (some ⟨w.heap.size, 0, none⟩) 1 1 [t] := by
  refine ⟨rfl, Nat.le_refl _, by decide, fun _ => r, fun _ => ⟨w.heap.size, 0, rfl, by simp, fun i hi => ?_⟩, fun i x e => ?_⟩
  · have : i = 0 := by omega
    subst this
    refine At7.of fun j hj => ?_
    rw [add_none, World.cell?_alloc_at _ _ _ _ rfl]
    simp [TR.cells]
  · cases i with
    | zero =>
      simp at e
      rw [← e]
      exact h.bel ((Below.refl _ _).alloc (Nat.le_refl _) _)
    | succ i => simp at e

set_option maxHeartbeats 1000000 in
theorem greatT_any (w : World) (r : TR) (t : Tm) (h : TV w r t) (most : Int) (h0 : -1 ≤ most) (h1 : most ≤ 1000000) :
    Calls Try.prog 7 #[.agg #[.int .i64 r.k, .int .i64 r.n, .bool r.g, .slice r.A r.ln r.lc, .int .u64 r.u, .string r.s, .slice r.B r.m r.d], .int .i64 most] w fun e w' => e = .returned (.bool (greatB [t] most)) ∧ Below w.heap.size w w' := by
  obtain ⟨g, hg⟩ : ∃ g, g = greatB [t] most := ⟨_, rfl⟩
  rw [← hg]
  have HG := Lib.hid hg
  clear hg
  have hb0 := (Below.refl w.heap.size w).alloc (Nat.le_refl _) (.cells #[.int .i64 r.k, .int .i64 r.n, .bool r.g, .slice r.A r.ln r.lc, .int .u64 r.u, .string r.s, .slice r.B r.m r.d] 28)
  have h2 := h.bel hb0
  go_enter Try.func7, Try.ntmps7
  go_wp2_with fail
  have h3 := TVs.one h2
  rw [World.size_alloc] at h3
  refine (parts_any _ _ 1 1 [t] (by exact h3) most h0 h1).mono ?_
  have HG' : Hid (g = decide (most < Tm.prts [t] 0 most)) := HG
  generalize Tm.prts [t] 0 most = q at HG' ⊢
  rintro e w1 ⟨rfl, hb1⟩
  go_wp2_with fail
  go_ret
  exact ⟨by rw [HG'.out]; rfl, (hb0.alloc (by simp) _).trans (hb1.mono (by simp; omega))⟩

end Go.Proofs.Ytbpihjcghmmacaa
