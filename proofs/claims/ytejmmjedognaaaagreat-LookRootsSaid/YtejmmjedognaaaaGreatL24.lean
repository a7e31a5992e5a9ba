/-
  PACKAGE look: behind; regions that lie apart: from.
  REGIONS THAT LIE APART, no Go.
  A RANGE OVER A FUNCTION WHOSE ITERATOR HAS STATE OF ITS OWN: blocks of a kind that the loop's body leaves alone.
  PACKAGE look: regions, as an iterator; a whole dump: from.
-/
import Derived.Test.YtejmmjedognaaaaGreatL23
import Derived.Test.YtejmmjedognaaaaGreatProg
import Derived.RangeFuncNested
import Derived.RangeFuncBound
import Derived.RangeFuncCalls
import Derived.RangeFuncLeaves
import Derived.Shelf.Abstract
import Derived.Shelf.RegionOpen
import Derived.WalkKit
import Derived.OwnWalkIn
import Derived.TacticsInMore
import Derived.LoopNIn
import Derived.LoopIn
namespace Go.Proofs.YtejmmjedognaaaaGreat
open Go.RowKit
open St

/-- The words of a region from an address on. -/
def bhL (f : Frg) (a : Int) : List Int := if 0 ≤ f.at_ ∧ f.at_ ≤ a ∧ a - f.at_ < (f.ws.length : Int) then f.ws.drop (a - f.at_).toNat else []
set_option maxRecDepth 100000 in
theorem atL_bh (f : Frg) (fs : List Frg) (a : Int) : atL (f :: fs) a = if bhL f a = [] then atL fs a else bhL f a := by
  by_cases h : 0 ≤ f.at_ ∧ f.at_ ≤ a ∧ a - f.at_ < (f.ws.length : Int)
  · have e : bhL f a = f.ws.drop (a - f.at_).toNat := if_pos h
    have hne : ¬ bhL f a = [] := fun e2 => by
      rw [e] at e2
      have := List.drop_eq_nil_iff.1 e2
      omega
    rw [if_neg hne, e]
    exact if_pos h
  · have e : bhL f a = [] := if_neg h
    rw [if_pos e]
    exact if_neg h

set_option maxRecDepth 100000 in
set_option maxRecDepth 100000 in
set_option maxHeartbeats 2000000 in
theorem behind_any {w : World} {r : FR} {f : Frg} (h : FV w r f) (a : Int) (ha : -9223372036854775808 ≤ a ∧ a ≤ 9223372036854775807) :
    Calls Tryz.prog 66 #[.agg #[.int .i64 r.at_, .slice r.A r.n r.c], .int .i64 a] w (WsP w (bhL f a)) := by
  obtain ⟨ra, rA, rn, rc⟩ := r
  have ea : ra = f.at_ := h.at_
  subst ea
  simp only
  obtain ⟨wa, hwa⟩ : ∃ wa, wa = w.alloc (.cells #[.int .i64 f.at_, .slice rA rn rc] 24) := ⟨_, rfl⟩
  have hba : Below w.heap.size w wa := by rw [hwa]; exact (Below.refl _ w).alloc (Nat.le_refl _) _
  have hbk : wa.heap[w.heap.size]? = some (.cells #[.int .i64 f.at_, .slice rA rn rc] 24 (0, 0)) := by rw [hwa]; exact heap_alloc_new w _
  have c0 : wa.cell? ⟨w.heap.size, 0, none⟩ = some (.int .i64 f.at_) := (cell_of_row wa w.heap.size 0 _ _ (0, 0) hbk).trans rfl
  have c1 : wa.cell? ⟨w.heap.size, 1, none⟩ = some (.slice rA rn rc) := (cell_of_row wa w.heap.size 1 _ _ (0, 0) hbk).trans rfl
  have hws : Hid (Zs .u64 wa rA rn rc f.ws) := Lib.hid (h.ws.below hba)
  have hnn : rn ≤ rc := h.ws.nc
  have hcc : rc ≤ 9223372036854775807 := h.ws.cm
  have hl : f.ws.length = rn := h.ws.len
  have hwf := wf_i h.wf
  have HB := Lib.hid hba
  clear h hbk hba
  go_enter Tryz.func66, Tryz.ntmps66
  go_upto_region 1 with fail
  rw [← hwa]
  clear hwa
  generalize hD : w.heap.size = D at *
  replace hD := Lib.hid hD
  by_cases h0 : f.at_ < 0
  · have hd2 : decide (f.at_ < 0) = true := decide_eq_true h0
    have HZ : Hid (bhL f a = []) := Lib.hid (if_neg (by omega))
    clear hws
    go_wp2
    go_ret
    exact ⟨none, 0, 0, rfl, by rw [HZ.out]; exact Zs.nil _ _, by rw [hD.out]; exact HB.out⟩
  · have hd2 : decide (f.at_ < 0) = false := decide_eq_false h0
    by_cases h1 : a < f.at_
    · have hd3 : decide (a < f.at_) = true := decide_eq_true h1
      have HZ : Hid (bhL f a = []) := Lib.hid (if_neg (by omega))
      clear hws
      go_wp2
      go_ret
      exact ⟨none, 0, 0, rfl, by rw [HZ.out]; exact Zs.nil _ _, by rw [hD.out]; exact HB.out⟩
    · have hd3 : decide (a < f.at_) = false := decide_eq_false h1
      obtain ⟨k, hk⟩ : ∃ k : Nat, a - f.at_ = (k : Int) := ⟨(a - f.at_).toNat, by omega⟩
      by_cases h2 : k < rn
      · have hd4 : decide ((rn : Int) ≤ (k : Int)) = false := decide_eq_false (by omega)
        have HZ : Hid (bhL f a = f.ws.drop k) := Lib.hid (by
          unfold bhL
          rw [if_pos ⟨by omega, by omega, by omega⟩, hk]
          rfl)
        obtain ⟨b2, o2, hfA, _⟩ := hws.out.some (by omega)
        subst hfA
        have hpart := hws.out.part (lo := k) (m := rn - k) (o' := o2 + k) (by omega) (.inr rfl)
        rw [List.take_of_length_le (by rw [List.length_drop]; omega)] at hpart
        have HPt : Hid (Zs .u64 wa (some ⟨b2, o2 + k, none⟩) (rn - k) (rc - k) (bhL f a)) := Lib.hid (by rw [HZ.out]; exact hpart)
        have hck : ¬ rc = k := by omega
        have hk2 : (k : Int) ≤ (rn : Int) := by omega
        clear hws HZ hpart
        go_wp2
        all_goals
          go_ret
          exact ⟨_, _, _, rfl, HPt.out, by rw [hD.out]; exact HB.out⟩
      · have hd4 : decide ((rn : Int) ≤ (k : Int)) = true := decide_eq_true (by omega)
        have HZ : Hid (bhL f a = []) := Lib.hid (if_neg (by omega))
        clear hws
        go_wp2
        go_ret
        exact ⟨none, 0, 0, rfl, by rw [HZ.out]; exact Zs.nil _ _, by rw [hD.out]; exact HB.out⟩

/-- A variable of one cell. -/
def Bv (w : World) (B : Nat) (v : Value) (t : TypeId) : Prop := w.heap[B]? = some (.cells #[v] t (0, 0))
namespace Bv
variable {w w' : World} {B : Nat} {v : Value} {t : TypeId}
set_option maxRecDepth 100000 in
theorem lt (h : Bv w B v t) : B < w.heap.size := (Array.getElem?_eq_some_iff.1 h).1
set_option maxRecDepth 100000 in
theorem below (h : Bv w B v t) {M : Nat} (hb : Below M w w') (hB : B < M) : Bv w' B v t := (hb.block B hB).trans h
set_option maxRecDepth 100000 in
theorem c0 (h : Bv w B v t) : w.cell? ⟨B, 0, none⟩ = some v := (cell_of_row w B 0 _ _ (0, 0) h).trans rfl
set_option maxRecDepth 100000 in
theorem new (w : World) (v : Value) (t : TypeId) : Bv (w.alloc (.cells #[v] t)) w.heap.size v t := heap_alloc_new w _
end Bv

/-- Regions in ascending order, with words, apart. -/
structure Srt (fs : List Frg) : Prop where
  ne : ∀ i, i < fs.length → 0 < (fs.getD i Frg.zero).ws.length ∧ 0 ≤ (fs.getD i Frg.zero).at_ ∧ (fs.getD i Frg.zero).at_ ≤ 1125899906842624
  up : ∀ i j, i < j → j < fs.length → (fs.getD i Frg.zero).at_ + (fs.getD i Frg.zero).ws.length ≤ (fs.getD j Frg.zero).at_

set_option maxRecDepth 100000 in
set_option maxRecDepth 100000 in
set_option maxHeartbeats 2000000 in
theorem fromC_any {w : World} {B1 B2 : Nat} {A : Option Addr} {n c : Nat} {rs : List FR} {fs : List Frg} {a : Int} (h : FVs w A n c rs fs) (h1 : Bv w B1 (.slice A n c) 74) (h2 : Bv w B2 (.int .i64 a) 3) (i : Nat) (hi : i < n) :
    Calls Tryz.prog 179 #[.int .i64 (i : Int), .pointer (some ⟨B1, 0, none⟩), .pointer (some ⟨B2, 0, none⟩)] w fun e w' => e = .returned (.bool (decide (a < (fs.getD i Frg.zero).at_))) ∧ ∃ q, w' = w.drewN q := by
  obtain ⟨b, o, hA, _⟩ := h.some (by omega)
  subst hA
  obtain ⟨y0, y1⟩ := h.at_ hi
  rw [(h.fv i hi).at_] at y0
  have hcm : c ≤ 9223372036854775807 := h.cm
  have hnc := h.mc
  have x1 := h1.c0
  have x2 := h2.c0
  clear h h1 h2
  generalize (fs.getD i Frg.zero).at_ = z at *
  go_enter Tryz.func179, Tryz.ntmps179
  go_wp2_with fail
  go_quiet (fail)
  go_wp2
  go_ret
  exact ⟨rfl, _, rfl⟩

/-- The first place from which on it holds. -/
structure SeP (n : Nat) (p : Nat → Bool) (i : Nat) : Prop where
  le : i ≤ n
  lo : ∀ j, j < i → p j = false
  hi : ∀ j, i ≤ j → j < n → p j = true

set_option maxRecDepth 100000 in
set_option maxRecDepth 100000 in
set_option maxHeartbeats 2000000 in
theorem search_any {w : World} {B1 B2 n : Nat} (hn : n ≤ 1000) (p : Nat → Bool) (hm : ∀ i j, i ≤ j → j < n → p i = true → p j = true)
    (hp : ∀ i, i < n → ∀ q, Calls Tryz.prog 179 #[.int .i64 (i : Int), .pointer (some ⟨B1, 0, none⟩), .pointer (some ⟨B2, 0, none⟩)] (w.drewN q) fun e w' => e = .returned (.bool (p i)) ∧ ∃ q', w' = w.drewN q') :
    Calls Tryz.prog 178 #[.int .i64 (n : Int), .func (.func 179) #[] #[.pointer (some ⟨B1, 0, none⟩), .pointer (some ⟨B2, 0, none⟩)]] w fun e w' => ∃ i q, SeP n p i ∧ e = .returned (.int .i64 (i : Int)) ∧ w' = w.drewN q := by
  replace hm := Lib.hid hm
  replace hp := Lib.hid hp
  go_enter Tryz.func178, Tryz.ntmps178
  go_wp2_with fail
  go_loopw [5, 6] (fun x y wx => ∃ i j q : Nat, i ≤ j ∧ j ≤ n ∧ x = .int .i64 (i : Int) ∧ y = .int .i64 (j : Int) ∧ Hid (∀ k, k < i → p k = false) ∧ Hid (∀ k, j ≤ k → k < n → p k = true) ∧ wx = w.drewN q) (fun x y _ => (intOf y).toNat - (intOf x).toNat)
  case atStart => exact ⟨0, n, 0, Nat.zero_le _, Nat.le_refl _, rfl, rfl, Lib.hid (fun k hk => by omega), Lib.hid (fun k h1 h2 => by omega), rfl⟩
  case round =>
    obtain ⟨i, j, q, hij, hjn, rfl, rfl, hlo, hhi, rfl⟩ := hrel
    by_cases hlt : i < j
    · have hd1 : decide ((i : Int) < (j : Int)) = true := decide_eq_true (by omega)
      obtain ⟨m, hmm⟩ : ∃ m, m = (i + j) / 2 := ⟨_, rfl⟩
      have hmi : i ≤ m ∧ m < j := by omega
      have hE : ((i : Int) + (j : Int)) / 2 = (m : Int) := by omega
      clear hmm
      have HP := Lib.hid (hp.out m (by omega) q)
      cases hpm : p m with
      | true =>
        rw [hpm] at HP
        have HN : Hid (∀ k, m ≤ k → k < n → p k = true) := Lib.hid (fun k h1 h2 => hm.out m k h1 h2 hpm)
        go_wp2_with (go_at_call 179; (with_reducible refine HP.out.mono ?_); rintro e w3 ⟨rfl, q3, rfl⟩)
        exact ⟨⟨i, m, _, by omega, by omega, rfl, rfl, hlo, HN, rfl⟩, by simp [intOf]; omega⟩
      | false =>
        rw [hpm] at HP
        have HN : Hid (∀ k, k < m + 1 → p k = false) := Lib.hid (fun k h1 => by
          cases e : p k with
          | false => rfl
          | true => rw [hm.out k m (by omega) (by omega) e] at hpm; cases hpm)
        go_wp2_with (go_at_call 179; (with_reducible refine HP.out.mono ?_); rintro e w3 ⟨rfl, q3, rfl⟩)
        exact ⟨⟨m + 1, j, _, by omega, by omega, rfl, rfl, HN, hhi, rfl⟩, by simp [intOf]; omega⟩
    · have hd1 : decide ((i : Int) < (j : Int)) = false := decide_eq_false (by omega)
      have e : i = j := by omega
      subst e
      go_wp2
      go_ret
      exact ⟨i, q, ⟨by omega, hlo.out, hhi.out⟩, rfl, rfl⟩

set_option maxRecDepth 100000 in
theorem bhL_no {f : Frg} {a : Int} (h : ¬ (0 ≤ f.at_ ∧ f.at_ ≤ a ∧ a - f.at_ < (f.ws.length : Int))) : bhL f a = [] := if_neg h
set_option maxRecDepth 100000 in
theorem atL_nil {fs : List Frg} {a : Int} (h : ∀ j, j < fs.length → bhL (fs.getD j Frg.zero) a = []) : atL fs a = [] := by
  induction fs with
  | nil => rfl
  | cons f fs ih =>
    rw [atL_bh, if_pos (by simpa using h 0 (by simp))]
    exact ih (fun j hj => by simpa using h (j + 1) (by simpa using hj))
set_option maxRecDepth 100000 in
theorem atL_only {fs : List Frg} {a : Int} {k : Nat} (hk : k < fs.length) (h : ∀ j, j < fs.length → j ≠ k → bhL (fs.getD j Frg.zero) a = []) : atL fs a = bhL (fs.getD k Frg.zero) a := by
  induction fs generalizing k with
  | nil => simp at hk
  | cons f fs ih =>
    rw [atL_bh]
    cases k with
    | zero =>
      rw [show (f :: fs).getD 0 Frg.zero = f from rfl]
      by_cases e : bhL f a = []
      · rw [if_pos e, e]
        exact atL_nil (fun j hj => by simpa using h (j + 1) (by simpa using hj) (by omega))
      · rw [if_neg e]
    | succ k =>
      rw [if_pos (by simpa using h 0 (by simp) (by omega))]
      rw [ih (k := k) (by simpa using hk) (fun j hj hne => by simpa using h (j + 1) (by simpa using hj) (by omega))]
      rfl
set_option maxRecDepth 100000 in
theorem atL_srt {fs : List Frg} (hs : Srt fs) {a : Int} {i : Nat} (h : SeP fs.length (fun i => decide (a < (fs.getD i Frg.zero).at_)) i) :
    (i = 0 → atL fs a = []) ∧ (∀ k, i = k + 1 → atL fs a = bhL (fs.getD k Frg.zero) a) := by
  have hi : ∀ j, i ≤ j → j < fs.length → bhL (fs.getD j Frg.zero) a = [] := fun j h1 h2 => by
    have := h.hi j h1 h2
    simp only [decide_eq_true_eq] at this
    exact bhL_no (by omega)
  refine ⟨fun e => atL_nil (fun j hj => hi j (by omega) hj), fun k e => ?_⟩
  have hk : k < fs.length := by have := h.le; omega
  refine atL_only hk (fun j hj hne => ?_)
  by_cases hjk : j < k
  · have h1 := hs.up j k hjk hk
    have h2 := h.lo k (by omega)
    simp only [decide_eq_false_iff_not] at h2
    exact bhL_no (by omega)
  · exact hi j (by omega) hj

set_option maxRecDepth 100000 in
set_option maxRecDepth 100000 in
set_option maxHeartbeats 4000000 in
theorem fromA_any {w : World} {A : Option Addr} {n c : Nat} {rs : List FR} {fs : List Frg} (h : FVs w A n c rs fs) (hs : Srt fs) (hn : n ≤ 1000) (a : Int) (ha : -9223372036854775808 ≤ a ∧ a ≤ 9223372036854775807) :
    Calls Tryz.prog 177 #[.slice A n c, .int .i64 a] w (WsP w (atL fs a)) := by
  obtain ⟨wa, hwa⟩ : ∃ wa, wa = w.alloc (.cells #[.slice A n c] 74) := ⟨_, rfl⟩
  obtain ⟨wb, hwb⟩ : ∃ wb, wb = wa.alloc (.cells #[.int .i64 a] 3) := ⟨_, rfl⟩
  have hba : Below w.heap.size w wa := by rw [hwa]; exact (Below.refl _ w).alloc (Nat.le_refl _) _
  have hbb : Below wa.heap.size wa wb := by rw [hwb]; exact (Below.refl _ wa).alloc (Nat.le_refl _) _
  have hs1 : wa.heap.size = w.heap.size + 1 := by rw [hwa]; simp
  have x1 : Bv wb w.heap.size (.slice A n c) 74 := by
    refine Bv.below ?_ hbb (by omega)
    rw [hwa]; exact Bv.new _ _ _
  have x2 : Bv wb (w.heap.size + 1) (.int .i64 a) 3 := by
    rw [← hs1, hwb]; exact Bv.new _ _ _
  have hbab := hba.trans (hbb.mono hba.size)
  have v := h.below hbab
  have hlen := h.lef
  clear h hba hbb
  have HS := Lib.hid (search_any (w := wb) (B1 := w.heap.size) (B2 := w.heap.size + 1) hn (fun i => decide (a < (fs.getD i Frg.zero).at_)) (fun i j hij hj e => by
      simp only [decide_eq_true_eq] at e ⊢
      by_cases he : i = j
      · rw [← he]; exact e
      · have := hs.up i j (by omega) (by omega)
        omega) (fun i hi q => (fromC_any (v.drewN q) (show Bv (wb.drewN q) _ _ _ from x1) (show Bv (wb.drewN q) _ _ _ from x2) i hi).mono fun e w' ⟨h1, q1, h2⟩ => ⟨h1, q + q1, by rw [h2, World.drewN_drewN]⟩))
  have HSr := Lib.hid hs
  have HB := Lib.hid hbab
  have hsz : wb.heap.size = w.heap.size + 2 := by rw [hwb]; simp; omega
  clear hs
  go_enter Tryz.func177, Tryz.ntmps177
  go_upto_region 1 with fail
  rw [← hwa, ← hwb]
  clear hwa hwb hs1
  generalize hD : w.heap.size = D at *
  replace hD := Lib.hid hD
  have y1 := x1.c0
  have y2 := x2.c0
  have hcm : c ≤ 9223372036854775807 := v.cm
  have hnc := v.mc
  go_upto_region 2 with (go_at_call 178; (with_reducible refine HS.out.mono ?_); rintro e w2 ⟨i, q, hse, rfl, rfl⟩; clear HS)
  have hP := atL_srt HSr.out (hlen ▸ hse)
  have hin := hse.le
  clear hse HSr
  by_cases h0 : i = 0
  · have HZ := Lib.hid (hP.1 h0)
    subst h0
    clear hP v x1 x2
    go_wp2
    go_ret
    exact ⟨none, 0, 0, rfl, by rw [HZ.out]; exact Zs.nil _ _, by rw [hD.out]; exact ⟨HB.out.os, HB.out.tape, HB.out.output, HB.out.size, HB.out.block⟩⟩
  · obtain ⟨k, hk⟩ : ∃ k, i = k + 1 := ⟨i - 1, by omega⟩
    have HZ := Lib.hid (hP.2 k hk)
    have hd1 : ((i : Int) == 0) = false := beq_eq_false_iff_ne.2 (by omega)
    have hE : (i : Int) - 1 = (k : Int) := by omega
    have hkn : k < n := by omega
    obtain ⟨b, o, hA, _⟩ := v.some (by omega)
    subst hA
    have KV : Hid (∀ w', Below wb.heap.size wb w' → w'.cell? ⟨D, 0, none⟩ = some (.slice (some ⟨b, o, none⟩) n c) ∧ w'.cell? ⟨D + 1, 0, none⟩ = some (.int .i64 a) ∧ w'.cell? ⟨b, o + k * 2, none⟩ = some (.int .i64 (rs.getD k FR.zero).at_) ∧ w'.cell? ⟨b, o + k * 2 + 1, none⟩ = some (.slice (rs.getD k FR.zero).A (rs.getD k FR.zero).n (rs.getD k FR.zero).c)) := Lib.hid (fun w' hb => by
      obtain ⟨z0, z1⟩ := (v.below hb).at_ hkn
      exact ⟨(x1.below hb x1.lt).c0, (x2.below hb x2.lt).c0, z0, z1⟩)
    have HC := Lib.hid (behind_any ((v.fv k hkn).drewN (q + 1)) a ha)
    have hi1 : 1 ≤ i := by omega
    have hW : ((i : Int) - 1 + 9223372036854775808) % 18446744073709551616 - 9223372036854775808 = (k : Int) := by omega
    have hW2 : IntKind.i64.wrap ((i : Int) - 1) = (k : Int) := by simp only [IntKind.wrap, IntKind.bits, IntKind.signed]; simp; omega
    have hW3 : wrap64 ((i : Int) - 1) = (k : Int) := by simp only [wrap64]; omega
    have hk2 : (k : Int) < (n : Int) := by omega
    clear hk hP v x1 x2 h0 hi1 hE
    generalize rs.getD k FR.zero = f at *
    generalize fs.getD k Frg.zero = g at *
    go_wp2_with fail
    go_region_held3 (fun w' => w'.cell? ⟨D, 0, none⟩ = some (.slice (some ⟨b, o, none⟩) n c) ∧ w'.cell? ⟨D + 1, 0, none⟩ = some (.int .i64 a) ∧ w'.cell? ⟨b, o + k * 2, none⟩ = some (.int .i64 f.at_) ∧ w'.cell? ⟨b, o + k * 2 + 1, none⟩ = some (.slice f.A f.n f.c))
      (first | exact KV.out (wb.drewN q) (bel_drewN wb q) | exact KV.out (wb.drewN (q + 1)) (bel_drewN wb (q + 1)) | exact KV.out w6 hb7)
      (first | (go_at_call 66; refine HC.out.mono ?_; rintro e w6 ⟨A6, n6, c6, rfl, hz6, hb6⟩; have hb7 : Below wb.heap.size wb w6 := (bel_drewN wb (q + 1)).trans hb6))
    all_goals
      go_wp2
      go_ret
      exact ⟨_, _, _, rfl, by rw [HZ.out]; exact hz6, by rw [hD.out]; exact HB.out.trans (hb7.mono (by have h9 := HB.out.size; rw [hD.out] at h9; exact h9))⟩
end Go.Proofs.YtejmmjedognaaaaGreat

namespace Go.Proofs.YtejmmjedognaaaaGreat
open Go.RowKit
open St

def neF (gs : List Frg) : List Frg := gs.filter (fun f => decide (0 < f.ws.length))
def Apt (f g : Frg) : Prop := f.at_ + f.ws.length ≤ g.at_ ∨ g.at_ + g.ws.length ≤ f.at_
set_option maxRecDepth 100000 in
theorem Apt.symm {f g : Frg} (h : Apt f g) : Apt g f := by unfold Apt at *; omega
def InR (f : Frg) : Prop := 0 ≤ f.at_ ∧ f.at_ ≤ 1125899906842624
/-- The regions with words have their places, and no address lies in two of them. -/
def Sepa (gs : List Frg) : Prop := (∀ f ∈ neF gs, InR f) ∧ (neF gs).Pairwise Apt

set_option maxRecDepth 100000 in
theorem atL_cons (f : Frg) (fs : List Frg) (a : Int) : (inF f a → atL (f :: fs) a = f.ws.drop (a - f.at_).toNat) ∧ (¬ inF f a → atL (f :: fs) a = atL fs a) :=
  ⟨fun h => if_pos h, fun h => if_neg h⟩
set_option maxRecDepth 100000 in
theorem inF_ne {f : Frg} {a : Int} (h : inF f a) : 0 < f.ws.length := by unfold inF at h; omega
set_option maxRecDepth 100000 in
theorem atL_ne (a : Int) : ∀ gs : List Frg, atL gs a = atL (neF gs) a
  | [] => rfl
  | f :: fs => by
    have ih := atL_ne a fs
    unfold neF at ih ⊢
    rw [List.filter_cons]
    by_cases h : 0 < f.ws.length
    · rw [if_pos (decide_eq_true h)]
      by_cases hi : inF f a
      · rw [(atL_cons f _ a).1 hi, (atL_cons f _ a).1 hi]
      · rw [(atL_cons f _ a).2 hi, (atL_cons f _ a).2 hi, ih]
    · rw [if_neg (by simpa using h), (atL_cons f _ a).2 (fun hi => h (inF_ne hi)), ih]
set_option maxRecDepth 100000 in
theorem apt_in {f g : Frg} {a : Int} (h : Apt f g) (hf : inF f a) (hg : inF g a) : False := by unfold Apt inF at *; omega
set_option maxRecDepth 100000 in
theorem atL_perm {fs gs : List Frg} (hp : fs.Perm gs) (a : Int) : fs.Pairwise Apt → atL fs a = atL gs a := by
  induction hp with
  | nil => intro _; rfl
  | cons f h ih =>
    intro hw
    rw [List.pairwise_cons] at hw
    by_cases hi : inF f a
    · rw [(atL_cons f _ a).1 hi, (atL_cons f _ a).1 hi]
    · rw [(atL_cons f _ a).2 hi, (atL_cons f _ a).2 hi, ih hw.2]
  | swap f g l =>
    intro hw
    rw [List.pairwise_cons] at hw
    have hfg : Apt g f := hw.1 f (by simp)
    by_cases hi : inF f a
    · have hg : ¬ inF g a := fun hg => apt_in hfg hg hi
      rw [(atL_cons g _ a).2 hg, (atL_cons f _ a).1 hi, (atL_cons f _ a).1 hi]
    · by_cases hg : inF g a
      · rw [(atL_cons g _ a).1 hg, (atL_cons f _ a).2 hi, (atL_cons g _ a).1 hg]
      · rw [(atL_cons g _ a).2 hg, (atL_cons f _ a).2 hi, (atL_cons f _ a).2 hi, (atL_cons g _ a).2 hg]
  | trans h1 h2 ih1 ih2 =>
    intro hw
    rw [ih1 hw, ih2 ((h1.pairwise_iff (fun h => Apt.symm h)).1 hw)]
set_option maxRecDepth 100000 in
theorem adj_up {fs : List Frg} (hadj : ∀ i, i + 1 < fs.length → (fs.getD i Frg.zero).at_ + (fs.getD i Frg.zero).ws.length ≤ (fs.getD (i + 1) Frg.zero).at_) (i : Nat) : ∀ j, i < j → j < fs.length → (fs.getD i Frg.zero).at_ + (fs.getD i Frg.zero).ws.length ≤ (fs.getD j Frg.zero).at_ := by
  intro j
  induction j with
  | zero => intro h; omega
  | succ j ih =>
    intro h1 h2
    by_cases e : i = j
    · subst e
      exact hadj i h2
    · have := ih (by omega) (by omega)
      have := hadj j h2
      omega
set_option maxRecDepth 100000 in
theorem getD_mem {fs : List Frg} {i : Nat} (h : i < fs.length) : fs.getD i Frg.zero ∈ fs := by
  rw [List.getD_eq_getElem?_getD, List.getElem?_eq_getElem h]
  exact List.getElem_mem h
set_option maxRecDepth 100000 in
theorem neF_mem {gs : List Frg} {f : Frg} (h : f ∈ neF gs) : f ∈ gs ∧ 0 < f.ws.length := by
  unfold neF at h
  rw [List.mem_filter] at h
  exact ⟨h.1, of_decide_eq_true h.2⟩
set_option maxRecDepth 100000 in
theorem sep_yes {fs gs : List Frg} (hp : fs.Perm (neF gs)) (hr : ∀ f ∈ neF gs, InR f)
    (hadj : ∀ i, i + 1 < fs.length → (fs.getD i Frg.zero).at_ + (fs.getD i Frg.zero).ws.length ≤ (fs.getD (i + 1) Frg.zero).at_) :
    Sepa gs ∧ Srt fs ∧ ∀ a, atL gs a = atL fs a := by
  have hs : Srt fs := ⟨fun i hi => by
    have h1 := hp.mem_iff.1 (getD_mem hi)
    exact ⟨(neF_mem h1).2, (hr _ h1).1, (hr _ h1).2⟩, fun i j hij hj => adj_up hadj i j hij hj⟩
  have hw : fs.Pairwise Apt := by
    rw [List.pairwise_iff_getElem]
    intro i j hi hj hij
    have := hs.up i j hij hj
    rw [List.getD_eq_getElem?_getD, List.getD_eq_getElem?_getD, List.getElem?_eq_getElem hi, List.getElem?_eq_getElem hj] at this
    exact .inl this
  exact ⟨⟨hr, (hp.pairwise_iff (fun h => Apt.symm h)).1 hw⟩, hs, fun a => by rw [atL_ne, atL_perm hp a hw]⟩
set_option maxRecDepth 100000 in
theorem sep_no {fs gs : List Frg} (hp : fs.Perm (neF gs)) (i : Nat) (hi : i + 1 < fs.length) (hs : (fs.getD i Frg.zero).at_ ≤ (fs.getD (i + 1) Frg.zero).at_)
    (ho : (fs.getD (i + 1) Frg.zero).at_ < (fs.getD i Frg.zero).at_ + (fs.getD i Frg.zero).ws.length) : ¬ Sepa gs := fun h => by
  have hw := (hp.pairwise_iff (fun h => Apt.symm h)).2 h.2
  have h1 := (List.pairwise_iff_getElem.1 hw) i (i + 1) (by omega) hi (by omega)
  have e1 : fs.getD i Frg.zero = fs[i]'(by omega) := by rw [List.getD_eq_getElem?_getD, List.getElem?_eq_getElem (by omega)]; rfl
  have e2 : fs.getD (i + 1) Frg.zero = fs[i + 1] := by rw [List.getD_eq_getElem?_getD, List.getElem?_eq_getElem hi]; rfl
  have h2 := (neF_mem (hp.mem_iff.1 (getD_mem hi))).2
  rw [← e1, ← e2] at h1
  unfold Apt at h1
  omega
set_option maxRecDepth 100000 in
theorem sep_out {f : Frg} {gs : List Frg} (hf : f ∈ gs) (h0 : 0 < f.ws.length) (hr : ¬ InR f) : ¬ Sepa gs := fun h => hr (h.1 f (by
  unfold neF
  rw [List.mem_filter]
  exact ⟨hf, decide_eq_true h0⟩))
end Go.Proofs.YtejmmjedognaaaaGreat

namespace Go.Proofs.YtejmmjedognaaaaGreat
open Go.RowKit

/-- It holds on where a block from B on is turned that meets M. -/
def AbM {β : Type} (M : Obj → Prop) (B : Nat) (J : β → World → Prop) : Prop :=
  ∀ s W W' row, J s W → W.grownBy W' row → (∀ r, row = some r → B ≤ r ∧ ∃ o : Obj, W.heap[r]? = some o ∧ M o) → J s W'
set_option maxRecDepth 100000 in
theorem AbM.alloc {β : Type} {M : Obj → Prop} {B : Nat} {J : β → World → Prop} (h : AbM M B J) {s : β} {W : World} (o : Obj) (hs : J s W) : J s (W.alloc o) :=
  h s W _ none hs (World.grownBy_alloc W o none) (fun r e => by cases e)
set_option maxRecDepth 100000 in
theorem AbM.putObj {β : Type} {M : Obj → Prop} {B : Nat} {J : β → World → Prop} (h : AbM M B J) {s : β} {W : World} {l : Nat} {o : Obj} (o' : Obj) (hs : J s W) (hB : B ≤ l) (hl : W.heap[l]? = some o) (ho : M o) : J s (W.putObj l o') :=
  h s W _ (some l) hs (grownBy_putObj' W l o') (fun r e => by cases e; exact ⟨hB, o, hl, ho⟩)
/-- Blocks from B on that meet M lie as they lay. -/
structure KpM (M : Obj → Prop) (B : Nat) (W W' : World) : Prop where
  size : W.heap.size ≤ W'.heap.size
  same : ∀ (k : Nat) (o : Obj), B ≤ k → W.heap[k]? = some o → M o → W'.heap[k]? = some o
set_option maxRecDepth 100000 in
theorem KpM.refl (M : Obj → Prop) (B : Nat) (W : World) : KpM M B W W := ⟨Nat.le_refl _, fun _ _ _ h _ => h⟩
set_option maxRecDepth 100000 in
theorem KpM.trans {M : Obj → Prop} {B : Nat} {X Y Z : World} (h : KpM M B X Y) (k : KpM M B Y Z) : KpM M B X Z := ⟨Nat.le_trans h.size k.size, fun i o hB hi ho => k.same i o hB (h.same i o hB hi ho) ho⟩
/-- A loop's book-keeping, or the iterator's own. -/
def Bk (Mi : Obj → Prop) (o : Obj) : Prop := (∃ r, o = .loop r) ∨ (∃ d, o = .deferred d) ∨ Mi o

/-- What an iterator promises that may write blocks that meet Mi. -/
def SeqM {α : Type} (F : Fence) (n : Nat) (P : Program) (g : Nat) (lb : Array Value) (encs : α → Array Value) (Mi : Obj → Prop) (Kp : World → World → Prop) (R S Sp : List α → Prop) (w : World) : Prop :=
  ∀ (l : Nat) (J Jx : List α → World → Prop) (W : World), Below w.heap.size w W → AbM Mi W.heap.size J → AbM Mi W.heap.size Jx →
    (∀ pre x W1, J pre W1 → R (pre ++ [x]) → YieldAt F (n - 1) P l (encs x) W1 fun e W' =>
      (e = .returned (.bool true) ∧ J (pre ++ [x]) W' ∧ Kp W1 W') ∨ (e = .returned (.bool false) ∧ Jx (pre ++ [x]) W')) →
    J [] W →
    CallsIn F n P g (#[.func (.yield l) #[] #[]] ++ lb) W fun e W' => (∃ v, e = .returned v) ∧ ((∃ xs, S xs ∧ J xs W') ∨ (∃ pre, Sp pre ∧ Jx pre W'))

/-- How a round's body may be left. -/
def postM {α : Type} (Mi : Obj → Prop) (B : Nat) (Kp : World → World → Prop) (I : List α → World → Prop) (Ix : Code → List α → World → Prop) (xs : List α) (W : World) : Exit → Act → World → Prop
  | .normal, _, W' => KpM (Bk Mi) B W W' ∧ Kp W W' ∧ I xs W'
  | .ret, _, W' => KpM (Bk Mi) B W W' ∧ Ix .ret xs W'
  | .exit id, _, W' => KpM (Bk Mi) B W W' ∧ Ix (.exit id) xs W'
  | .goto t, _, W' => KpM (Bk Mi) B W W' ∧ Ix (.goto t) xs W'
  | .panic _, _, _ => False
  | .outgrown, _, _ => False

set_option maxRecDepth 100000 in
set_option maxHeartbeats 1000000 in
theorem range_m {F : Fence} {n : Nat} {P : Program} {α : Type} {g : Operand} {ps : Array Tmp} {assign body : Code} {Q : Exit → Act → World → Prop} {a : Act} {w : World}
    (hro : F.round = none) (h1 : 1 ≤ n) {gf : Nat} {lb : Array Value} (hg : a.eval g = .func (.func gf) #[] lb) (hFg : F.fn gf) (eg : ∀ args w, (callFunc gf args).run P w = .ok (.enter gf args) w)
    {encs : α → Array Value} {Mi : Obj → Prop} {Kp : World → World → Prop} {R S Sp : List α → Prop} {w0 : World} (hseq : SeqM F (n - 1) P gf lb encs Mi Kp R S Sp w0)
    (hM1 : ∀ r, ¬ Mi (.loop r)) (hM2 : ∀ d, ¬ Mi (.deferred d)) (hKt : ∀ {A B C : World}, Kp A B → Kp B C → Kp A C) (hKb : ∀ (W : World) (l : Nat) (r : Loop) (o' : Obj), w.heap.size ≤ l → W.heap[l]? = some (.loop r) → Kp W (W.putObj l o'))
    (hb0 : Below w0.heap.size w0 w) (hps : ∀ x, (encs x).size = ps.size)
    (I : List α → World → Prop) (Ix : Code → List α → World → Prop) (hI : AbM (Bk Mi) w.heap.size I) (hIx : ∀ c, AbM (Bk Mi) w.heap.size (Ix c)) (h0 : I [] w) (Ax : List α → α → Act → World → Prop) (hAx : ∀ pre x a', AbM (Bk Mi) w.heap.size (fun (_ : Unit) W => Ax pre x a' W))
    (hassign : ∀ (l : Nat) (pre : List α) (x : α) (W : World) (K : Act → World → Prop), I pre W → R (pre ++ [x]) → (∀ a' W', KpM (Bk Mi) w.heap.size W W' → Kp W W' → I pre W' → Ax pre x a' W' → K a' W') →
      assign.wpIn (F.inRound l) (n - 1 - 1) P (Exit.then K (fun _ _ _ => False)) { tmps := (ps.zip (encs x)).foldl (fun t (p, v) => t.setIfInBounds p v) a.tmps, defers := [] } W)
    (hbody : ∀ (l : Nat) (pre : List α) (x : α) (a' : Act) (W : World), I pre W → Ax pre x a' W → R (pre ++ [x]) → body.wpIn (F.inRound l) (n - 1 - 1) P (postM Mi w.heap.size Kp I Ix (pre ++ [x]) W) a' W)
    (hdone : ∀ (D : Nat) (xs : List α) (W : World), w.heap.size ≤ D → S xs → I xs W → W.heap[D]? = some (.deferred (some [])) → Q .normal { a with defers := { target := .collected D, args := #[] } :: a.defers } W)
    (hstop : ∀ (D : Nat) (c : Code) (pre : List α) (W : World), w.heap.size ≤ D → Sp pre → Ix c pre W → W.heap[D]? = some (.deferred (some [])) → c.wpIn F n P Q { a with defers := { target := .collected D, args := #[] } :: a.defers } W) :
    (Code.rangeFunc g ps assign body).wpIn F n P Q a w := by
  refine wpIn_rangeFunc ?_
  intro fn hfn
  rw [hro]
  obtain ⟨rec, hrec⟩ : ∃ rec : LoopState → Option Code → Loop, rec = fun st pe => { state := st, pending := pe, fn, tmps := a.tmps, params := ps, assign, body, defers := w.heap.size } := ⟨_, rfl⟩
  obtain ⟨D, hD⟩ : ∃ D, D = w.heap.size := ⟨_, rfl⟩
  obtain ⟨L, hL⟩ : ∃ L, L = w.heap.size + 1 := ⟨_, rfl⟩
  obtain ⟨W1, hW1⟩ : ∃ W1, (w.alloc (.deferred (some []))).alloc (.loop (rec .ready none)) = W1 := ⟨_, rfl⟩
  have hs1 : W1.heap.size = w.heap.size + 2 := by rw [← hW1]; simp
  have hL1 : W1.heap[L]? = some (.loop (rec .ready none)) := by
    rw [← hW1, hL]
    have := World.alloc_heap_new (w.alloc (.deferred (some []))) (.loop (rec .ready none))
    rwa [World.size_alloc] at this
  have hK1 : W1.heap[D]? = some (.deferred (some [])) := by
    rw [← hW1, hD]
    exact (Below.heap_alloc _ _ _ (by simp)).trans (World.alloc_heap_new w _)
  have hb1 : Below w0.heap.size w0 W1 := by
    rw [← hW1]
    exact hb0.trans ((((Below.refl _ w).alloc (Nat.le_refl _) _).alloc (by simp) _).mono hb0.size)
  have hi1 : I [] W1 := by rw [← hW1]; exact hI.alloc _ (hI.alloc _ h0)
  -- a turn of a block that is the iterator's own leaves the two blocks of book-keeping
  have keep : ∀ {A B : World} {row : Option Nat} {k : Nat} {o : Obj}, A.grownBy B row → (∀ r, row = some r → W1.heap.size ≤ r ∧ ∃ o : Obj, A.heap[r]? = some o ∧ Mi o) → A.heap[k]? = some o → ¬ Mi o → B.heap[k]? = some o := fun hg hr hk hno =>
    (hg.block _ (Array.getElem?_eq_some_iff.1 hk).1 (fun e => by
      obtain ⟨_, o', ho', hm⟩ := hr _ e.symm
      rw [hk] at ho'
      cases ho'
      exact hno hm)).trans hk
  refine ⟨w.heap.size + 1, [{ target := .collected w.heap.size, args := #[] }], W1, { target := .fn (.func gf) lb, args := #[.func (.yield (w.heap.size + 1)) #[] #[]] }, W1, gf,
    #[.func (.yield (w.heap.size + 1)) #[] #[]] ++ lb, W1, ?_, ?_, ?_, ?_, fun _ => h1, ?_⟩
  · rw [← hW1, hrec]; exact run_enterLoop_outer _ _ _ _ _
  · simp only [resolve, hg]
    simp [go_sem]
  · intro f' hf'; simp [Target.leads] at hf'; subst hf'; exact hFg
  · simp [invoke, go_sem, eg]
  rw [← hL, ← hD]
  have hDL : D < L := by omega
  refine (hseq L
    (fun pre W => I pre W ∧ W.heap[L]? = some (.loop (rec .ready none)) ∧ W.heap[D]? = some (.deferred (some [])))
    (fun pre W => ∃ c, Ix c pre W ∧ W.heap[L]? = some (.loop (rec .done (some c))) ∧ W.heap[D]? = some (.deferred (some [])))
    W1 hb1 ?_ ?_ ?_ ⟨hi1, hL1, hK1⟩).mono ?_
  · intro s A B row hs hg' hr
    exact ⟨hI s A B row hs.1 hg' (fun r e => by obtain ⟨hB, o, ho, hm⟩ := hr r e; exact ⟨by omega, o, ho, .inr (.inr hm)⟩), keep hg' hr hs.2.1 (hM1 _), keep hg' hr hs.2.2 (hM2 _)⟩
  · intro s A B row hs hg' hr
    obtain ⟨c, hc, hl, hk⟩ := hs
    exact ⟨c, hIx c s A B row hc hg' (fun r e => by obtain ⟨hB, o, ho, hm⟩ := hr r e; exact ⟨by omega, o, ho, .inr (.inr hm)⟩), keep hg' hr hl (hM1 _), keep hg' hr hk (hM2 _)⟩
  · rintro pre x W ⟨hi, hl, hk⟩ hR
    have hy := run_yield (P := P) (args := encs x) hl (by rw [hrec]; exact hps x)
    rw [hrec] at hy
    refine ⟨fn, _, assign, body, hy, roundIn_of_wpIn hfn (hassign _ pre x W _ hi hR ?_)⟩
    clear hy
    intro a' V hkf hkp hia hax
    have hl' := hkf.same L _ (by omega) hl (.inl ⟨_, rfl⟩)
    have hk' := hkf.same D _ (by omega) hk (.inr (.inl ⟨_, rfl⟩))
    have hlt : L < V.heap.size := (Array.getElem?_eq_some_iff.1 hl').1
    refine ⟨_, run_beginRound hl' (by rw [hrec]), ?_⟩
    obtain ⟨bz, hbz⟩ : ∃ bz : Loop, bz = { rec .ready none with state := .busy } := ⟨_, rfl⟩
    rw [← hbz]
    obtain ⟨V2, hV2⟩ : ∃ V2, V2 = V.putObj L (.loop bz) := ⟨_, rfl⟩
    have hl2 : V2.heap[L]? = some (.loop bz) := by rw [hV2]; exact World.putObj_heap_same hlt
    have hk2 : V2.heap[D]? = some (.deferred (some [])) := by rw [hV2]; exact (World.putObj_heap_other (by omega)).trans hk'
    have hkp2 : Kp V V2 := by rw [hV2]; exact hKb _ _ _ _ (by omega) hl'
    have hi2 : I pre V2 := by rw [hV2]; exact hI.putObj _ hia (by omega) hl' (.inl ⟨_, rfl⟩)
    have hax2 : Ax pre x a' V2 := by rw [hV2]; exact (hAx pre x a').putObj (s := ()) _ hax (by omega) hl' (.inl ⟨_, rfl⟩)
    rw [← hV2]
    refine wpIn_mono (hbody L pre x a' V2 hi2 hax2 hR) ?_
    have fin : ∀ (jump : Option Code) (W3 : World), KpM (Bk Mi) w.heap.size V2 W3 →
        (Instr.endRound L jump).run P W3 = .ok (.bool jump.isNone) (W3.putObj L (.loop (rec (if jump.isNone then .ready else .done) jump))) ∧
        (∃ r, W3.heap[L]? = some (.loop r)) ∧
        (W3.putObj L (.loop (rec (if jump.isNone then .ready else .done) jump))).heap[L]? = some (.loop (rec (if jump.isNone then .ready else .done) jump)) ∧
        (W3.putObj L (.loop (rec (if jump.isNone then .ready else .done) jump))).heap[D]? = some (.deferred (some [])) := fun jump W3 hk3 => by
      have hl3 := hk3.same L _ (by omega) hl2 (.inl ⟨_, rfl⟩)
      have hr3 := run_endRound (P := P) jump hl3
      rw [hbz, hrec] at hr3
      refine ⟨by rw [hrec]; exact hr3, ⟨_, hl3⟩, World.putObj_heap_same (Array.getElem?_eq_some_iff.1 hl3).1, (World.putObj_heap_other (by omega)).trans (hk3.same D _ (by omega) hk2 (.inr (.inl ⟨_, rfl⟩)))⟩
    rintro e a3 W3 hp
    cases e with
    | normal =>
      obtain ⟨hk3, hkp3, hi3⟩ := hp
      obtain ⟨hr, ⟨r3, hl3⟩, hl4, hk4⟩ := fin none W3 hk3
      exact ⟨_, _, hr, .inl ⟨rfl, ⟨hI.putObj _ hi3 (by omega) hl3 (.inl ⟨_, rfl⟩), hl4, hk4⟩, hKt hkp (hKt (hKt hkp2 hkp3) (hKb _ _ _ _ (by omega) hl3))⟩⟩
    | ret =>
      obtain ⟨hk3, hi3⟩ := hp
      obtain ⟨hr, ⟨r3, hl3⟩, hl4, hk4⟩ := fin (some .ret) W3 hk3
      exact ⟨_, _, hr, .inr ⟨rfl, .ret, (hIx _).putObj _ hi3 (by omega) hl3 (.inl ⟨_, rfl⟩), hl4, hk4⟩⟩
    | exit id =>
      obtain ⟨hk3, hi3⟩ := hp
      obtain ⟨hr, ⟨r3, hl3⟩, hl4, hk4⟩ := fin (some (.exit id)) W3 hk3
      exact ⟨_, _, hr, .inr ⟨rfl, .exit id, (hIx _).putObj _ hi3 (by omega) hl3 (.inl ⟨_, rfl⟩), hl4, hk4⟩⟩
    | goto t =>
      obtain ⟨hk3, hi3⟩ := hp
      obtain ⟨hr, ⟨r3, hl3⟩, hl4, hk4⟩ := fin (some (.goto t)) W3 hk3
      exact ⟨_, _, hr, .inr ⟨rfl, .goto t, (hIx _).putObj _ hi3 (by omega) hl3 (.inl ⟨_, rfl⟩), hl4, hk4⟩⟩
    | panic ch => exact hp.elim
    | outgrown => exact hp.elim
  · rintro e W2 ⟨⟨v, rfl⟩, (⟨xs, hS, hi, hl, hk⟩ | ⟨pre, hSp, c, hi, hl, hk⟩)⟩
    · exact ⟨none, _, by have := run_endLoop (P := P) hl (by rw [hrec]; simp); rw [hrec] at this; exact this, hdone D xs _ (by omega) hS (hI.putObj _ hi (by omega) hl (.inl ⟨_, rfl⟩)) ((World.putObj_heap_other (by omega)).trans hk)⟩
    · exact ⟨some c, _, by have := run_endLoop (P := P) hl (by rw [hrec]; simp); rw [hrec] at this; exact this, hstop D c pre _ (by omega) hSp ((hIx c).putObj _ hi (by omega) hl (.inl ⟨_, rfl⟩)) ((World.putObj_heap_other (by omega)).trans hk)⟩
end Go.Proofs.YtejmmjedognaaaaGreat

namespace Go.Proofs.YtejmmjedognaaaaGreat
open Go.RowKit Go.Shelf
open St
attribute [local go_sem] Oper.semAt_some

set_option maxRecDepth 100000 in
set_option maxRecDepth 100000 in
set_option maxHeartbeats 2000000 in
theorem regions_any {w : World} (r : DR) :
    Calls Tryz.prog 61 #[.agg #[.int .i64 r.y.at_, .slice r.y.A r.y.n r.y.c, .int .i64 r.o.at_, .slice r.o.A r.o.n r.o.c, .int .i64 r.size, .int .i64 r.mark, .slice r.F r.fm r.fc, .slice r.R r.rm r.rc, .slice r.H r.hm r.hc]] w fun e w' => e = .returned (.func (.func 94) #[] #[.pointer (some ⟨w.heap.size, 0, none⟩)]) ∧ w' = w.alloc (.cells #[.int .i64 r.y.at_, .slice r.y.A r.y.n r.y.c, .int .i64 r.o.at_, .slice r.o.A r.o.n r.o.c, .int .i64 r.size, .int .i64 r.mark, .slice r.F r.fm r.fc, .slice r.R r.rm r.rc, .slice r.H r.hm r.hc] 28) := by
  go_enter Tryz.func61, Tryz.ntmps61
  go_wp2
  go_ret
  exact ⟨rfl, rfl⟩

def encF (x : FR) : Array Value := #[.agg #[.int .i64 x.at_, .slice x.A x.n x.c]]
set_option maxRecDepth 100000 in
theorem take_fr {rs : List FR} {i : Nat} (h : i < rs.length) : rs.take (i + 1) = rs.take i ++ [rs.getD i FR.zero] := by
  rw [List.take_add_one]
  simp [h]

set_option maxRecDepth 100000 in
set_option maxRecDepth 100000 in
set_option maxHeartbeats 4000000 in
theorem regions1_in (n : Nat) (hn1 : 1 ≤ n) (l B0 n₀ : Nat) (r : DR) (d : Dmp) (hm : r.fm ≤ 1000) (J Jx : List FR → World → Prop) {M : Obj → Prop} {B : Nat} (hAb : AbM M B J)
    (hY : ∀ pre x W, J pre W → (∃ k, pre ++ [x] = (r.y :: r.o :: r.rs).take k) → YieldAt Fence.wide (n - 1) Tryz.prog l #[.agg #[.int .i64 x.at_, .slice x.A x.n x.c]] W fun e W' =>
      (e = .returned (.bool true) ∧ J (pre ++ [x]) W' ∧ Below n₀ W W') ∨ (e = .returned (.bool false) ∧ Jx (pre ++ [x]) W'))
    (W : World) (hx : Bx W B0 r) (hB : B0 < n₀) (hn₀ : n₀ ≤ W.heap.size) (hv0 : ∀ V, Below n₀ W V → DV V r d) (h0 : J [] W) :
    CallsIn Fence.wide n Tryz.prog 94 #[.func (.yield l) #[] #[], .pointer (some ⟨B0, 0, none⟩)] W fun e W' => (∃ v, e = .returned v) ∧
      ((∃ ys, ys = r.y :: r.o :: r.rs ∧ J ys W') ∨ (∃ pre, (∃ k, pre = (r.y :: r.o :: r.rs).take k) ∧ Jx pre W')) := by
  refine callsIn_of_wp Tryz.func94 rfl trivial ?_ rfl
  simp only [Tryz.ntmps94, List.size_toArray, List.length_cons, List.length_nil, Nat.reduceAdd, Nat.reduceSub, Array.replicate_succ, Array.replicate_zero, List.push_toArray, List.append_toArray, List.nil_append, List.cons_append]
  have c0 := hx.c0
  have c1 := hx.c1
  obtain ⟨fn, tmps, assign, body, hy, hR⟩ := hY [] r.y W h0 ⟨1, rfl⟩
  have key : ∀ k, k < r.rs.length → (r.y :: r.o :: r.rs).take (k + 3) = (r.y :: r.o :: r.rs).take (k + 2) ++ [r.rs.getD k FR.zero] := fun k hk => by
    have := take_fr (rs := r.y :: r.o :: r.rs) (i := k + 2) (by simpa using hk)
    simpa using this
  gi_wp2
  refine hR.mono ?_
  rintro e W1 (⟨rfl, hJ1, hk1⟩ | ⟨rfl, hJx1⟩)
  · have x1 := hx.below hk1 hB
    have d2 := x1.c2
    have d3 := x1.c3
    clear c0 c1 hy hR
    obtain ⟨fn, tmps, assign, body, hy, hR⟩ := hY [r.y] r.o W1 hJ1 ⟨2, rfl⟩
    gi_wp2
    refine hR.mono ?_
    rintro e W2 (⟨rfl, hJ2, hk2⟩ | ⟨rfl, hJx2⟩)
    · have x2 := x1.below hk2 hB
      have d6 := x2.c6
      have hk12 := hk1.trans hk2
      have v2 := (hv0 W2 hk12).fs
      have hl : r.rs.length = r.fm := v2.len
      have hfc : r.fc ≤ 9223372036854775807 := v2.cm
      clear d2 d3 hy hR x1
      gi_wp2
      by_cases hF : r.fm = 0
      · rw [hF]
        gi_loopw [20] (fun i wr => i = .int .i64 0 ∧ J [r.y, r.o] wr) (fun _ _ => 0)
        case atStart => exact ⟨rfl, hJ2⟩
        case round =>
          obtain ⟨rfl, hJs⟩ := hrel
          gi_wp2
          go_end0
          have e : r.rs = [] := List.eq_nil_of_length_eq_zero (by omega)
          exact ⟨⟨_, rfl⟩, .inl ⟨_, rfl, by rw [e]; exact hJs⟩⟩
      · obtain ⟨b, o, hA, hbl⟩ := v2.some (by omega)
        rw [hA]
        gi_loopw [20] (fun i wr => ∃ k : Nat, k ≤ r.fm ∧ i = .int .i64 k ∧ J ((r.y :: r.o :: r.rs).take (k + 2)) wr ∧ Below n₀ W wr) (fun i _ => r.fm - (intOf i).toNat)
        case atStart => exact ⟨0, Nat.zero_le _, rfl, hJ2, hk12⟩
        case round =>
          obtain ⟨k, hk, rfl, hJs, hbw⟩ := hrel
          by_cases hlt : k < r.fm
          · have hd1 : decide ((k : Int) < (r.fm : Int)) = true := decide_eq_true (by omega)
            have v3 := (hv0 wr hbw).fs
            rw [hA] at v3
            obtain ⟨y0, y1⟩ := v3.at_ hlt
            have hkey := key k (by omega)
            obtain ⟨f, hf⟩ : ∃ f, f = r.rs.getD k FR.zero := ⟨_, rfl⟩
            rw [← hf] at y0 y1 hkey
            have hJa := hAb.alloc (.cells #[.int .i64 f.at_, .slice f.A f.n f.c] 24) hJs
            obtain ⟨fn, tmps, assign, body, hy, hR⟩ := hY _ f _ hJa ⟨k + 3, hkey.symm⟩
            have hbw2 : Below n₀ wr (wr.alloc (.cells #[.int .i64 f.at_, .slice f.A f.n f.c] 24)) := (Below.refl n₀ wr).alloc (by have := hbw.size; omega) _
            clear hf hY v3 hJa
            gi_wp2
            refine hR.mono ?_
            rintro e W3 (⟨rfl, hJ3, hk3⟩ | ⟨rfl, hJx3⟩)
            · gi_wp2
              go_roundw
              case rel => exact ⟨k + 1, by omega, by simp, by rw [hkey]; exact hJ3, (hbw.trans hbw2).trans hk3⟩
              case measure => simp [intOf]; omega
            · gi_wp2
              refine bodyPost_ret (results_none rfl _ _ _) rfl ?_
              exact ⟨⟨_, rfl⟩, .inr ⟨_, ⟨k + 3, hkey.symm⟩, hJx3⟩⟩
          · have e : k = r.fm := by omega
            subst e
            have hd1 : decide ((r.fm : Int) < (r.fm : Int)) = false := decide_eq_false (by omega)
            gi_wp2
            go_end0
            refine ⟨⟨_, rfl⟩, .inl ⟨_, rfl, ?_⟩⟩
            rw [List.take_of_length_le (by simp; omega)] at hJs
            exact hJs
    · gi_wp2
      refine bodyPost_ret (results_none rfl _ _ _) rfl ?_
      exact ⟨⟨_, rfl⟩, .inr ⟨_, ⟨2, rfl⟩, hJx2⟩⟩
  · gi_wp2
    refine ⟨fun _ h => (by cases h), ?_⟩
    gi_wp2
    refine bodyPost_ret (results_none rfl _ _ _) rfl ?_
    exact ⟨⟨_, rfl⟩, .inr ⟨_, ⟨1, rfl⟩, hJx1⟩⟩
end Go.Proofs.YtejmmjedognaaaaGreat
