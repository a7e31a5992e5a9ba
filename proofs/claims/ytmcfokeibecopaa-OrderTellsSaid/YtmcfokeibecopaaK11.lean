/-
  CONTRACTS OF THE REFERENCE's Add, Sub, Mul, Div.
  WHAT A LAW's PROOF CLOSES WITH: the call has changed nothing that was there.
  WHAT EVERY PROGRAM ANSWERS THAT IS ONE: awake of beehivelaw2.
  CONTRACT OF THE REFERENCE's Of (floats).
  CONTRACT OF THE REFERENCE's whole.
  CONTRACT OF THE REFERENCE's whole: its walk.
-/
import Derived.Test.YtmcfokeibecopaaK5
import Derived.Test.YtmcfokeibecopaaRows
import Derived.Test.YtmcfokeibecopaaK4
import Derived.ProofKit
import Derived.OpenShut
import Derived.Lib.SmallJoins
import Derived.Carry
import Derived.Test.YtmcfokeibecopaaK10
import Derived.Test.YtmcfokeibecopaaK3
import Derived.Deep.RegionHeld3
namespace Go.Proofs.Ytmcfokeibecopaa
open Go.RowKit

end Go.Proofs.Ytmcfokeibecopaa

namespace Go.Proofs.Ytmcfokeibecopaa
open Go.ChangeShapes Go.WideShapes Go.ChangeAt Go.RowKit

set_option maxRecDepth 100000 in
theorem own : ownKnob Try.prog.godebug = none := by kernel_rfl

set_option maxRecDepth 100000 in
theorem law_post {H : Type} {enc : TypeId × Value → H} {P : Program} {f : Func} {s : ChangeSpec} {W W' : World} {args : Array Value} {v : Value} {ds gs : List (DataW H)} {before pa pv : List MemPlace}
    (hW : DataW.Whole enc P f.params.toList s.vars false W args.toList ds gs before)
    (hres : DataW.TrodAll enc P W' W.heap.size (fun _ => false) false f.resultTypes.toList (v.resultList f.resultTypes.size) (s.fn H (ds ++ gs)).results [])
    (hargs : DataW.TrodAll enc P W' 0 (fun b => decide (b < W.heap.size)) true f.params.toList args.toList (s.fn H (ds ++ gs)).args pa)
    (hvars : DataW.TrodVars enc P W' (fun b => decide (b < W.heap.size)) s.vars (s.fn H (ds ++ gs)).vars pv)
    (hps : before = pa ++ pv) (hb : Below W.heap.size W W') : s.post enc P f false true false false W args v W' :=
  ⟨ds, gs, before, [], pa, pv, hW, hres, hargs, hvars, World.keptBut_mono (fun p hp => ⟨hp, by rw [hps, List.mem_append] at hp; exact Or.inr hp⟩) (hb.frame (· ∈ before)), fun h => by cases h⟩

set_option maxRecDepth 100000 in
theorem laidOut : laidOutB Try.prog = true := by kernel_rfl
set_option maxRecDepth 100000 in
theorem cells_num : Try.prog.cellsOf 24 = 2 := by kernel_rfl

set_option maxRecDepth 100000 in
/-- A number that came in, of any limbs. -/
theorem open_num {H : Type} {enc : TypeId × Value → H} {W : World} {base : Nat} {v : Value} {d : DataW H} {p : List MemPlace}
    (hv : Value.okWide Try.prog W .any base 24 v) (h : DataW.Trod enc Try.prog W 0 (fun _ => true) true 24 v d p) :
    ∃ (g : Bool) (A : Option Addr) (n c : Nat) (l : List Nat), v = .agg #[.bool g, .slice A n c] ∧ Raw W A n c l := by
  obtain ⟨c0, c1, y0, y1, m, rfl, rfl, rfl, hy0, hy1⟩ := Joins.open_agg2 Try.underlying24 (by kernel_rfl) cells_num hv h
  obtain ⟨g, e0, _⟩ := DataW.trod_bool Try.underlying4 hy0
  simp only [List.cons.injEq, and_true] at e0
  subst e0
  rcases open_ints Try.underlying22 Try.underlying60 (by kernel_rfl) hy1 with ⟨e1, _⟩ | ⟨a, len, cap, zs, e1, _, hl, hm, hz, _, hcell, hwz⟩
  · simp only [List.cons.injEq, and_true] at e1
    subst e1
    exact ⟨g, none, 0, 0, [], rfl, Lim.nil W none 0, Nat.zero_le _⟩
  · simp only [List.cons.injEq, and_true] at e1
    subst e1
    simp only [if_true] at hz
    have hb : ∀ j, j < zs.length → 0 ≤ zs.getD j 0 ∧ zs.getD j 0 ≤ 4294967295 := fun j hj => by
      have hmem : zs.getD j 0 ∈ zs := by
        rw [List.getD_eq_getElem?_getD, List.getElem?_eq_getElem hj, Option.getD_some]
        exact List.getElem_mem hj
      have := hwz _ hmem
      generalize zs.getD j 0 = y at this ⊢
      simp [Lit.wf, IntKind.min, IntKind.max, IntKind.signed, IntKind.bits] at this
      omega
    have hlg : ∀ j, j < len → Lm.lg ((zs.take len).map Int.toNat) j = (zs.getD j 0).toNat := fun j hj => by
      simp only [Lm.lg, List.getD_eq_getElem?_getD, List.getElem?_map, List.getElem?_take_of_lt hj]
      rw [List.getElem?_eq_getElem (by omega)]
      rfl
    refine ⟨g, some a, len, cap, (zs.take len).map Int.toNat, rfl, ⟨?_, hl, ?_, fun hn => ?_⟩, hm⟩
    · rw [List.length_map, List.length_take]; omega
    · intro x hx
      rw [List.mem_map] at hx
      obtain ⟨y, hy, rfl⟩ := hx
      have := hwz y (List.mem_of_mem_take hy)
      simp [Lit.wf, IntKind.min, IntKind.max, IntKind.signed, IntKind.bits] at this
      omega
    · have h0 := hcell 0 (by omega)
      have hspot : a.spot = none := by
        have := World.cell?_spot h0
        simpa [Addr.add] using this
      obtain ⟨b, o, sp⟩ := a
      simp only at hspot
      subst hspot
      have hadd : ∀ j, (⟨b, o, none⟩ : Addr).add j = ⟨b, o + j, none⟩ := fun j => by unfold Addr.add; split <;> simp_all
      refine ⟨b, o, rfl, ?_, fun j hj => ?_⟩
      · have := World.block_lt_of_cell? W _ h0
        rw [hadd] at this
        exact this
      · rw [hlg j hj, ← hadd j, hcell j (by omega)]
        have := hb j (by omega)
        congr 2
        omega

end Go.Proofs.Ytmcfokeibecopaa

namespace Go.Proofs.Ytmcfokeibecopaa
open Go.RowKit

set_option maxRecDepth 100000 in
theorem u64_wf {a : Int} (h : (Lit.int .u64 a).wf = true) : U64 a := by
  simp [Lit.wf, IntKind.min, IntKind.max, IntKind.signed, IntKind.bits] at h
  unfold U64
  omega
set_option maxRecDepth 100000 in
theorem aw_cmp : cmpI 9223372036854775808 0 = -1 := by decide
set_option maxRecDepth 100000 in
theorem aw_div : opI .quo 4607182418800017408 9223372036854775808 = 18442240474082181120 := by decide +kernel
set_option maxRecDepth 100000 in
theorem aw_sub : opI .sub 9218868437227405312 9218868437227405312 = 9221120237041090561 := by decide +kernel
set_option maxRecDepth 100000 in
theorem aw_may : (cleanI 9218868437227405321 == 9218868437227405321) = false := by decide
set_option maxRecDepth 100000 in
theorem aw_cmpNum : cmpNumR false [] 9223372036854775808 = -1 := by
  unfold cmpNumR cmpNumZ
  have h1 : mayB false [] = true := by decide
  have h2 : Fl.nanB (9223372036854775808 : Int).toNat = false := by decide
  have h3 : Fl.sv (9223372036854775808 : Int).toNat = 0 := by decide
  rw [h1, h2]
  unfold Fl.flr
  rw [h3, Int.zero_ediv]
  rfl
set_option maxRecDepth 100000 in
theorem ofN_one : Fl.ofN 1 = 4607182418800017408 := by
  rw [Fl.ofN_def]
  have h1 : Fl.val (1023 * Fl.B) = 2 ^ 0 * Fl.U := Fl.val_binade 1023 0 (by omega) (by rw [Fl.K_eq])
  rw [Nat.pow_zero] at h1
  rw [← h1, Fl.R_val (by decide)]
  rfl
set_option maxRecDepth 100000 in
theorem aw_of (z : Int) (hz : z = 1) (g : Bool) (hg : g = decide (z < 0)) : ofR g (Lm.digits z.natAbs) = 4607182418800017408 := by
  subst hz
  have h1 : Lm.digits (1 : Int).natAbs = [1] := by
    show Lm.digits 1 = [1]
    rw [Lm.digits_pos (by decide)]
    show 1 % 4294967296 :: Lm.digits (1 / 4294967296) = [1]
    rw [show 1 / 4294967296 = 0 from rfl, Lm.digits_zero]
  rw [h1, hg]
  unfold ofR
  rw [show mayB (decide ((1 : Int) < 0)) [1] = true from by decide, if_pos rfl, show decide ((1 : Int) < 0) = false from by decide, Fl.word_false, show Lm.val [1] = 1 from by decide, ofN_one]

end Go.Proofs.Ytmcfokeibecopaa

namespace Go.Proofs.Ytmcfokeibecopaa
open Go.RowKit

/-- V is u * 2^up and something, which 'rest' tells. -/
def St (V u up : Nat) (rest : Bool) : Prop := ∃ r, V = u * 2 ^ up + r ∧ r < 2 ^ up ∧ rest = decide (r ≠ 0) ∧ (up = 0 ∨ 4611686018427387904 ≤ u) ∧ u < 9223372036854775808

set_option maxRecDepth 100000 in
theorem St.zero : St 0 0 0 false := ⟨0, rfl, by decide, rfl, Or.inl rfl, by decide⟩
set_option maxRecDepth 100000 in
theorem St.low {V u up : Nat} {rest : Bool} (h : St V u up rest) (hu : u < 4611686018427387904) (b : Nat) (hb : b < 2) : St (2 * V + b) (u * 2 + b) up rest := by
  obtain ⟨r, h1, h2, h3, h4, h5⟩ := h
  have hup : up = 0 := by omega
  subst hup
  have hr : r = 0 := by simpa using h2
  subst hr
  refine ⟨0, ?_, h2, h3, Or.inl rfl, by omega⟩
  rw [h1, Nat.pow_zero]; omega
set_option maxRecDepth 100000 in
theorem St.high {V u up : Nat} {rest : Bool} (h : St V u up rest) (hu : 4611686018427387904 ≤ u) (b : Nat) (hb : b < 2) : St (2 * V + b) u (up + 1) (rest || decide (b = 1)) := by
  obtain ⟨r, h1, h2, h3, h4, h5⟩ := h
  refine ⟨2 * r + b, ?_, ?_, ?_, Or.inr hu, h5⟩
  · rw [h1, Nat.pow_succ, Nat.mul_add, ← Nat.mul_assoc, Nat.mul_comm 2, Nat.mul_assoc u, Nat.mul_comm 2]; omega
  · rw [Nat.pow_succ]; omega
  · rw [h3, ← Bool.decide_or, decide_eq_decide]; omega
set_option maxRecDepth 100000 in
theorem bit_step (V x t : Nat) : V * 2 ^ (32 - t) + x / 2 ^ t = V * 2 ^ (32 - t) + (2 * (x / 2 ^ (t + 1)) + x / 2 ^ t % 2) := by
  have : x / 2 ^ (t + 1) = x / 2 ^ t / 2 := by rw [Nat.pow_succ, Nat.div_div_eq_div_mul]
  rw [this]; omega

set_option maxRecDepth 100000 in
theorem band_bit {X t : Nat} (h : X < 4294967296) : bits .and .u64 ((X : Int) / 2 ^ t) 1 = ((X / 2 ^ t % 2 : Nat) : Int) := by
  have e : ((X : Int) / 2 ^ t) = ((X / 2 ^ t : Nat) : Int) := by push_cast; rfl
  have hle : X / 2 ^ t ≤ X := Nat.div_le_self ..
  rw [e]
  generalize X / 2 ^ t = y at *
  rw [u64_and _ _ (by omega) (by omega) (by decide) (by decide), Int.toNat_natCast, show (1 : Int).toNat = 1 from rfl]
  congr 1
  exact Nat.and_one_is_mod _
set_option maxRecDepth 100000 in
theorem val_step (V X t : Nat) (ht : t < 32) : V * 2 ^ (32 - t) + X / 2 ^ t = 2 * (V * 2 ^ (32 - (t + 1)) + X / 2 ^ (t + 1)) + X / 2 ^ t % 2 := by
  have e1 : 2 ^ (32 - t) = 2 * 2 ^ (32 - (t + 1)) := by rw [← Nat.pow_succ']; congr 1; omega
  have e2 : X / 2 ^ (t + 1) = X / 2 ^ t / 2 := by rw [Nat.pow_succ, Nat.div_div_eq_div_mul]
  rw [e1, e2, Nat.mul_left_comm]
  omega
set_option maxRecDepth 100000 in
/-- What the bits come to at last. -/
theorem St.fin {V u up : Nat} {rest : Bool} (h : St V u up rest) (hup : up ≤ 256) :
    (rest = false ∧ u = 0 ∧ V = 0 ∧ up = 0) ∨ (∃ u', u' ≠ 0 ∧ u' < 2 ^ 64 ∧ Fl.ofN V = Fl.ofN u' + up * Fl.B ∧ (rest = false ∧ u' = u ∨ rest = true ∧ u' = u / 2 * 2 + 1)) := by
  obtain ⟨r, h1, h2, h3, h4, h5⟩ := h
  by_cases h0 : u = 0
  · left
    have hu : up = 0 := by omega
    subst hu h0
    have hr : r = 0 := by simpa using h2
    subst hr
    refine ⟨by rw [h3]; rfl, rfl, by rw [h1, Nat.zero_mul], rfl⟩
  · right
    have hl : u.log2 < 63 := (Nat.log2_lt h0).2 (by omega)
    by_cases hr : r = 0
    · refine ⟨u, h0, by omega, ?_, Or.inl ⟨by rw [h3, hr]; rfl, rfl⟩⟩
      rw [h1, hr, Nat.add_zero, Fl.ofN_mul h0 (by omega)]
    · have hu : 4611686018427387904 ≤ u := by
        rcases h4 with h4 | h4
        · subst h4; simp at h2; omega
        · exact h4
      have hlog : u.log2 = 62 := Fl.log2_eq (by omega) (by omega)
      have hlog' : (u / 2 * 2 + 1).log2 = 62 := Fl.log2_eq (by omega) (by omega)
      refine ⟨u / 2 * 2 + 1, by omega, by omega, ?_, Or.inr ⟨by rw [h3]; exact decide_eq_true hr, rfl⟩⟩
      rw [h1, Fl.sticky (by omega) h2 (by omega) (by omega), Fl.ofN_mul (by omega) (by omega)]

set_option maxRecDepth 100000 in
theorem clean_word {g : Bool} {N : Nat} : cleanN (Ieee.double.word g (Fl.ofN N)) = Ieee.double.word g (Fl.ofN N) := by
  unfold cleanN
  rw [if_neg]
  unfold Fl.nanB
  rw [Fl.word_rg (Fl.ofN_lt N), decide_eq_true_iff]
  have := Fl.ofN_le N
  omega
set_option maxRecDepth 100000 in
theorem word_lt2 (g : Bool) (N : Nat) : Ieee.double.word g (Fl.ofN N) < 2 * Fl.S := by
  have := Fl.ofN_lt N
  unfold Ieee.Format.word; rw [Fl.sw_eq]; split <;> omega

end Go.Proofs.Ytmcfokeibecopaa

namespace Go.Proofs.Ytmcfokeibecopaa
open Go.RowKit

namespace Fl
/-- The whole part of a float's magnitude; is something left? -/
noncomputable def wh (r : Nat) : Nat := val r / U
noncomputable def lf (r : Nat) : Bool := decide (val r % U ≠ 0)
set_option maxRecDepth 100000 in
theorem wh_at {r s : Nat} (h1 : s = 0 ∨ pl r + s ≤ 1074) (h2 : 1074 ≤ pl r + s ∨ mt r / 2 ^ s = 0) : wh r = mt r / 2 ^ s * 2 ^ (pl r + s - 1074) ∧ lf r = decide (mt r % 2 ^ s ≠ 0) := by
  have hK := K_eq
  have hU := U_pos
  unfold wh lf val
  generalize mt r = M at *
  generalize pl r = p at *
  by_cases hp : 1074 ≤ p + s
  · by_cases hs : s = 0
    · subst hs
      have hp' : 1074 ≤ p := by omega
      have e : M * 2 ^ p = M * 2 ^ (p - 1074) * U := by rw [U_def, hK, split_pow _ _ _ hp']
      rw [e, Nat.mul_div_cancel _ hU, Nat.mul_mod_left, Nat.pow_zero, Nat.div_one, Nat.mod_one, Nat.add_zero]
      exact ⟨rfl, rfl⟩
    · have hps : p + s = 1074 := by omega
      have e : U = 2 ^ s * 2 ^ p := by rw [U_def, ← Nat.pow_add]; congr 1; omega
      have hq := Nat.two_pow_pos p
      rw [e, Nat.mul_div_mul_right _ _ hq, Nat.mul_mod_mul_right, hps, Nat.sub_self, Nat.pow_zero, Nat.mul_one]
      refine ⟨rfl, ?_⟩
      rw [decide_eq_decide]
      constructor
      · intro h h0; rw [h0, Nat.zero_mul] at h; exact h rfl
      · intro h h0
        rcases Nat.mul_eq_zero.1 h0 with h0 | h0
        · exact h h0
        · omega
  · have hM : M / 2 ^ s = 0 := by
      rcases h2 with h2 | h2
      · exact absurd h2 hp
      · exact h2
    have hlt : M < 2 ^ s := by
      rcases Nat.div_eq_zero_iff.1 hM with h | h
      · have := Nat.two_pow_pos s; omega
      · exact h
    have hv : M * 2 ^ p < U := by
      have h3 : M * 2 ^ p < 2 ^ s * 2 ^ p := Nat.mul_lt_mul_of_pos_right hlt (Nat.two_pow_pos p)
      rw [← Nat.pow_add] at h3
      have h4 : 2 ^ (s + p) ≤ U := by rw [U_def]; exact Nat.pow_le_pow_right (by omega) (by omega)
      omega
    rw [Nat.div_eq_of_lt hv, Nat.mod_eq_of_lt hv, hM, Nat.zero_mul, Nat.mod_eq_of_lt hlt]
    refine ⟨rfl, ?_⟩
    rw [decide_eq_decide]
    have hq := Nat.two_pow_pos p
    constructor
    · intro h h0; rw [h0, Nat.zero_mul] at h; exact h rfl
    · intro h h0
      rcases Nat.mul_eq_zero.1 h0 with h0 | h0
      · exact h h0
      · omega
set_option maxRecDepth 100000 in
theorem half_step (M s : Nat) : M / 2 ^ (s + 1) = M / 2 ^ s / 2 ∧ decide (M % 2 ^ (s + 1) ≠ 0) = (decide (M % 2 ^ s ≠ 0) || decide (M / 2 ^ s % 2 = 1)) := by
  refine ⟨by rw [Nat.pow_succ, Nat.div_div_eq_div_mul], ?_⟩
  rw [← Bool.decide_or, decide_eq_decide, Nat.pow_succ, Nat.mod_mul]
  have hp := Nat.two_pow_pos s
  rcases Nat.mod_two_eq_zero_or_one (M / 2 ^ s) with h | h <;> rw [h] <;> omega
end Fl

set_option maxRecDepth 100000 in
theorem bE {b : Int} (h : U64 b) : bits .and .u64 (b / 4503599627370496) 2047 = ((Fl.rg b.toNat / 4503599627370496 : Nat) : Int) := by
  have h1 := h.1
  have h2 := h.2
  rw [u64_and _ _ (by omega) (by omega) (by decide) (by decide), show (2047 : Int).toNat = 2 ^ 11 - 1 from rfl, Nat.and_two_pow_sub_one_eq_mod]
  congr 1
  have e : Fl.S = 9223372036854775808 := rfl
  unfold Fl.rg
  rw [e]
  have : (b / 4503599627370496).toNat = b.toNat / 4503599627370496 := by omega
  rw [this]
  omega
set_option maxRecDepth 100000 in
theorem bM {b : Int} (h : U64 b) : bits .and .u64 b 4503599627370495 = ((Fl.rg b.toNat % 4503599627370496 : Nat) : Int) := by
  rw [u64_and _ _ h.1 h.2 (by decide) (by decide), show (4503599627370495 : Int).toNat = 2 ^ 52 - 1 from rfl, Nat.and_two_pow_sub_one_eq_mod]
  congr 1
  have e : Fl.S = 9223372036854775808 := rfl
  unfold Fl.rg
  rw [e]
  omega
set_option maxRecDepth 100000 in
theorem bO {m : Nat} (h : m < 4503599627370496) : bits .or .u64 (m : Int) 4503599627370496 = ((4503599627370496 + m : Nat) : Int) := by
  have := or_join (x := m) (y := 1) 52 h (by omega)
  rw [show ((1 * 2 ^ 52 : Nat) : Int) = 4503599627370496 from rfl] at this
  rw [this]; omega
set_option maxRecDepth 100000 in
theorem band1 {m : Nat} (h : m < 18446744073709551616) : bits .and .u64 (m : Int) 1 = ((m % 2 : Nat) : Int) := by
  rw [u64_and _ _ (by omega) (by omega) (by decide) (by decide), Int.toNat_natCast, show (1 : Int).toNat = 1 from rfl]
  congr 1
  exact Nat.and_one_is_mod _

set_option maxRecDepth 100000 in
/-- A row of one's own, written. -/
theorem Own.at {w : World} {base n c : Nat} {A : Option Addr} {l : List Nat} (h : Own w base A n c l) (hn : 0 < n) :
    ∃ g, A = some ⟨g, 0, none⟩ ∧ base ≤ g ∧ g < w.heap.size ∧ (∀ i, i < n → w.cell? ⟨g, i, none⟩ = some (.int .u32 (Lm.lg l i : Nat))) ∧ (∀ i, w.frozen? ⟨g, i, none⟩ = false) ∧
      ∀ i x : Nat, i < n → x < 4294967296 → Own (w.setCell ⟨g, i, none⟩ (.int .u32 (x : Int))) base A n c (l.set i x) := by
  rcases h.2.2.2 with ⟨_, h0⟩ | ⟨g, cap, cur, hv, hb, hg, h1, h2, h3, h4⟩
  · omega
  · injection hv with hA _ hc
    subst hA hc
    have hR : Rw w g c cur := ⟨hg, by rw [h3]; omega⟩
    refine ⟨g, rfl, hb, hR.lt, fun i hi => ?_, fun i => hR.fz i, fun i x hi hx => ?_⟩
    · exact World.ownsRow.cellAt h.2.2 i (by omega) |>.trans (limbVs_get (by rw [h.2.1]; exact hi))
    · have hS := hR.set i (.int .u32 (x : Int))
      refine ⟨Lm.small_set h.1 i hx, by rw [List.length_set, h.2.1], by rw [limbVs_len, List.length_set, h.2.1]; omega, .inr ⟨g, c, _, rfl, hb, hS.1, h1, h2, by rw [Array.size_setIfInBounds, h3], ?_⟩⟩
      rw [Array.toList_setIfInBounds, List.take_set, h4]
      simp [limbVs, List.map_set]
end Go.Proofs.Ytmcfokeibecopaa

namespace Go.Proofs.Ytmcfokeibecopaa
open Go.RowKit

set_option maxRecDepth 100000 in
/-- append, as one step of a region that draws. -/
theorem step_append_run {P : Program} {ops : Array Oper} {o : Oper} {a : Act} {w w' : World} {K : Act → World → Prop} {Q : Exit → Act → World → Prop} {E : Prop}
    (hg : o.guard = none) (s x : Operand) (t : TypeId) (hop : o.op = Op.call { callee := Callee.builtin Builtin.append, args := #[s, x], argTypes := #[t, t] })
    (v y v' : Value) (hs : a.eval s = v) (hx : a.eval x = y) (hrun : (Builtin.append_ #[t, t] o.type #[v, y]).run P w = .ok v' w')
    (hK : K (a.put o.dst v') w') : if Region.wanted o (yielded ops a.tmps) = true then Oper.wp P o a w K Q else E := by
  have hw : Region.wanted o (yielded ops a.tmps) = true := by simp [Region.wanted, hg]
  rw [if_pos hw]
  unfold Oper.wp
  simp [execOp, hop, resolve, invoke, builtin, hs, hx, hrun, Result.andThen]
  exact hK

set_option maxRecDepth 100000 in
/-- Mantissa and place, as the reference takes them out of the bits. -/
theorem mt_lo {r : Nat} (h : r / 4503599627370496 = 0) : Fl.mt r = r % 4503599627370496 ∧ Fl.pl r = 0 := by
  have e : Fl.B = 4503599627370496 := rfl
  unfold Fl.mt Fl.pl
  rw [e, if_pos (by omega), if_pos (by omega)]
  exact ⟨by omega, rfl⟩
set_option maxRecDepth 100000 in
theorem mt_hi {r : Nat} (h : r / 4503599627370496 ≠ 0) : Fl.mt r = 4503599627370496 + r % 4503599627370496 ∧ Fl.pl r + 1 = r / 4503599627370496 := by
  have e : Fl.B = 4503599627370496 := rfl
  unfold Fl.mt Fl.pl
  rw [e, if_neg (by omega), if_neg (by omega)]
  exact ⟨rfl, by omega⟩


set_option maxRecDepth 100000 in
theorem shl_step {t T0 : List Nat} {i c u X s : Nat} (hi : i < t.length) (h : Lm.val (t.take i) + 4294967296 ^ i * c = Lm.val (T0.take i) * 2 ^ u) (hX : Lm.lg T0 i = X) (hs : s = X * 2 ^ u + c) :
    Lm.val ((t.set i (s % 4294967296)).take (i + 1)) + 4294967296 ^ (i + 1) * (s / 4294967296) = Lm.val (T0.take (i + 1)) * 2 ^ u := by
  rw [Lm.val_take_succ, Lm.val_take_succ, Lm.val_take_set (Nat.le_refl _), Lm.lg_set hi, if_pos rfl, hX, Nat.add_mul, ← h, Nat.pow_succ, Nat.mul_assoc (4294967296 ^ i) 4294967296, Nat.mul_assoc (4294967296 ^ i) X, Nat.add_assoc, Nat.add_assoc, ← Nat.mul_add, ← Nat.mul_add]
  congr 2
  have := Nat.div_add_mod s 4294967296
  omega
set_option maxRecDepth 100000 in
theorem digits_row {t : List Nat} {K : Nat} (hs : Lm.Small t) (hv : Lm.val t = K) (hn : 0 < t.length) (hge : 4294967296 ^ (t.length - 1) ≤ K) : Lm.digits K = t := by
  have h1 := Lm.digits_take hs
  rw [hv] at h1
  have h2 : ¬ (Lm.digits K).length ≤ t.length - 1 := by rw [Lm.digits_length]; omega
  rw [h1, List.take_of_length_le]
  rw [h1, List.length_take] at h2
  rw [h1, List.length_take]
  omega
set_option maxRecDepth 100000 in
theorem val_zeros2 (N m : Nat) : Lm.val (List.replicate N 0 ++ Lm.digits m) = 4294967296 ^ N * m := by
  rw [Lm.val_append, List.length_replicate, Lm.val_digits]
  have : Lm.val (List.replicate N 0) = 0 := by
    induction N with
    | zero => rfl
    | succ N ih => rw [List.replicate_succ]; simp only [Lm.val]; omega
  omega
set_option maxRecDepth 100000 in
theorem pow_32 (N : Nat) : 4294967296 ^ N = 2 ^ (32 * N) := by rw [Nat.pow_mul]
set_option maxRecDepth 100000 in
theorem top_zeros {N m : Nat} (hm : m ≠ 0) : 4294967296 ^ (N + (Lm.digits m).length - 1) ≤ 4294967296 ^ N * m := by
  have h0 : 0 < (Lm.digits m).length := by
    rcases Nat.eq_zero_or_pos (Lm.digits m).length with h | h
    · exact absurd (Lm.digits_eq_nil.1 (List.eq_nil_of_length_eq_zero h)) hm
    · exact h
  have h1 : ¬ (Lm.digits m).length ≤ (Lm.digits m).length - 1 := by omega
  rw [Lm.digits_length] at h1
  rw [show N + (Lm.digits m).length - 1 = N + ((Lm.digits m).length - 1) by omega, Nat.pow_add]
  exact Nat.mul_le_mul_left _ (by omega)

set_option maxRecDepth 100000 in
set_option maxRecDepth 100000 in
set_option maxHeartbeats 4000000 in
/-- From the bits on: M and p are the mantissa and the place. -/
theorem refWhole_at (w : World) (b : Int) (g : Bool) (K M p : Nat) (left : Bool) (hM : M < 9007199254740992) (hp : p < 1322) (hsg : (b / 9223372036854775808 == 1) = g)
    (HA : Hid (∀ s : Nat, s = 0 ∨ p + s ≤ 1074 → 1074 ≤ p + s ∨ M / 2 ^ s = 0 → K = M / 2 ^ s * 2 ^ (p + s - 1074) ∧ left = decide (M % 2 ^ s ≠ 0)))
    (hent : Hid (p = 0 ∧ bits .and .u64 (b / 4503599627370496) 2047 = 0 ∧ bits .and .u64 b 4503599627370495 = (M : Int) ∨ ∃ lo : Int, bits .and .u64 (b / 4503599627370496) 2047 = (p : Int) + 1 ∧ bits .and .u64 b 4503599627370495 = lo ∧ bits .or .u64 lo 4503599627370496 = (M : Int))) :
    Calls Try.prog 84 #[.int .u64 b] w (NumPost w (sgn g K) left) := by
  rcases hent.out with ⟨hp0, b1, b2⟩ | ⟨lo, b1, b2, b3⟩
  all_goals
    try have hne : ((p : Int) + 1 - 1075 == -1075) = false := by rw [beq_eq_false_iff_ne]; omega
    clear hent
    go_enter Try.func84, Try.ntmps84
    go_wp2_with fail
    go_loop [4, 5, 6] (fun v m d => ∃ (s : Nat) (e : Int), v = .int .i64 e ∧ Hid (e = (p : Int) - 1074 + (s : Int)) ∧ -1074 ≤ e ∧ e ≤ 300 ∧ m = .int .u64 ((M / 2 ^ s : Nat) : Int) ∧ d = .bool (decide (M % 2 ^ s ≠ 0)) ∧ (s = 0 ∨ p + s ≤ 1074) ∧ s ≤ 1074) (fun e _ _ => (2000 - intOf e).toNat)
    case atStart => exact ⟨0, (p : Int) - 1074, congrArg (Value.int .i64) (by omega), Lib.hid (by omega), by omega, by omega, by simp, by simp [Nat.mod_one], Or.inl rfl, by omega⟩
    case round =>
      obtain ⟨s, e, rfl, hes, he1, he2, rfl, rfl, hs1, hs2⟩ := hrel
      have hMs : M / 2 ^ s < 9007199254740992 := Nat.lt_of_le_of_lt (Nat.div_le_self ..) hM
      have hstep := Lib.hid (Fl.half_step M s)
      have hat := Lib.hid (HA.out s hs1)
      generalize M / 2 ^ s = m at *
      generalize decide (M % 2 ^ s ≠ 0) = rest at *
      by_cases hgo : e < 0 ∧ m ≠ 0
      · obtain ⟨he, hm⟩ := hgo
        have hm' : (0 : Int) < (m : Int) := by omega
        have hbd := band1 (m := m) (by omega)
        clear hat
        cases rest with
        | true =>
          go_wp2
          have h9 := hes.out
          exact ⟨⟨s + 1, e + 1, rfl, Lib.hid (by omega), by omega, by omega, congrArg (Value.int .u64) (by rw [hstep.out.1]; omega), congrArg Value.bool (by rw [hstep.out.2]; rfl), Or.inr (by omega), by omega⟩, by simp [intOf]; omega⟩
        | false =>
          go_wp2
          have h9 := hes.out
          refine ⟨⟨s + 1, e + 1, rfl, Lib.hid (by omega), by omega, by omega, congrArg (Value.int .u64) (by rw [hstep.out.1]; omega), congrArg Value.bool ?_, Or.inr (by omega), by omega⟩, by simp [intOf]; omega⟩
          rw [hstep.out.2, Bool.false_or, Bool.eq_iff_iff, beq_iff_eq, decide_eq_true_iff]
          omega
      · have h9 := hes.out
        obtain ⟨hKm, hleft⟩ := hat.out (by omega)
        obtain ⟨E, hE⟩ : ∃ E, E = p + s - 1074 := ⟨_, rfl⟩
        rw [← hE] at hKm
        have hE3 : E ≤ 300 := by omega
        have hmax : max e 0 = (E : Int) := by omega
        obtain ⟨N, hN⟩ : ∃ N, N = E / 32 := ⟨_, rfl⟩
        have hN1 : (E : Int) / 32 = (N : Int) := by omega
        have hN2 : N ≤ 9 := by omega
        have HN := Lib.hid hN
        have HF := Lib.hid (And.intro hKm hleft)
        have HG := Lib.hid hgo
        have HE := Lib.hid hE
        clear hat hstep HA hKm hleft hs1 hgo hE hN h9 hes b1 b2
        have hmk := fun w => make_limbs N (by omega) w
        have hx2 := Box.new w (.bool false) (.slice none 0 0)
        have hx2' := hx2.alloc (.cells #[.bool false, .slice none 0 0] 24)
        have hx7 := Box.new (w.alloc (.cells #[.bool false, .slice none 0 0] 24)) (.bool false) (.slice none 0 0)
        simp only [World.size_alloc] at hx7
        have hb0 := ((Below.refl w.heap.size w).alloc (Nat.le_refl _) (.cells #[.bool false, .slice none 0 0] 24)).alloc (by simp) (.cells #[.bool false, .slice none 0 0] 24)
        have hsz : ((w.alloc (.cells #[.bool false, .slice none 0 0] 24)).alloc (.cells #[.bool false, .slice none 0 0] 24)).heap.size = w.heap.size + 2 := by simp
        have y0 := hx7.c0
        have y1 := hx7.c1
        by_cases hm : m = 0
        · subst hm
          have q7 : Box (((w.alloc (.cells #[.bool false, .slice none 0 0] 24)).alloc (.cells #[.bool false, .slice none 0 0] 24)).alloc (.cells (arr (List.replicate N 0)) 60)).drew (w.heap.size + 1) (.bool false) (.slice none 0 0) := hx7.alloc (.cells (arr (List.replicate N 0)) 60)
          have e0 : Below w.heap.size w (((w.alloc (.cells #[.bool false, .slice none 0 0] 24)).alloc (.cells #[.bool false, .slice none 0 0] 24)).alloc (.cells (arr (List.replicate N 0)) 60)).drew := (hb0.alloc (by rw [hsz]; omega) (.cells (arr (List.replicate N 0)) 60)).drew
          by_cases he : e < 0
          · have hwr : IntKind.i64.wrap 0 = (N : Int) := by rw [IntKind.wrap_i64]; omega
            have hmk' := hmk
            rw [← hwr] at hmk'
            clear hwr hN1 hmk
            go_wp2_with fail
            go_region_held3 (fun w' => w'.cell? ⟨w.heap.size + 1, 0, none⟩ = some (.bool false) ∧ w'.cell? ⟨w.heap.size + 1, 1, none⟩ = some (.slice none 0 0))
              (first | exact ⟨y0, y1⟩ | exact ⟨q7.c0, q7.c1⟩)
              (first | fail)
            go_wp2
            refine bodyPost_ret (v := .tuple #[.agg #[.bool false, .slice none 0 0], .bool rest]) (by simp [results, Try.results84, go_sem]) rfl ?_
            rw [HF.out.1, HF.out.2, Nat.zero_mul, show sgn g 0 = 0 by cases g <;> rfl]
            exact ⟨_, rfl, NumV.zero _ _, e0⟩
          · have hwr : IntKind.i64.wrap (e.tdiv 32) = (N : Int) := by rw [IntKind.wrap_i64, Int.tdiv_eq_ediv_of_nonneg (by omega)]; omega
            have hmk' := hmk
            rw [← hwr] at hmk'
            clear hwr hN1 hmk
            go_wp2_with fail
            go_region_held3 (fun w' => w'.cell? ⟨w.heap.size + 1, 0, none⟩ = some (.bool false) ∧ w'.cell? ⟨w.heap.size + 1, 1, none⟩ = some (.slice none 0 0))
              (first | exact ⟨y0, y1⟩ | exact ⟨q7.c0, q7.c1⟩)
              (first | fail)
            go_wp2
            refine bodyPost_ret (v := .tuple #[.agg #[.bool false, .slice none 0 0], .bool rest]) (by simp [results, Try.results84, go_sem]) rfl ?_
            rw [HF.out.1, HF.out.2, Nat.zero_mul, show sgn g 0 = 0 by cases g <;> rfl]
            exact ⟨_, rfl, NumV.zero _ _, e0⟩
        · have he : ¬ e < 0 := fun h => HG.out ⟨h, hm⟩
          have hm' : (0 : Int) < (m : Int) := by omega
          have hmz : ((m : Int) == 0) = false := by rw [beq_eq_false_iff_ne]; omega
          have hwr : IntKind.i64.wrap (e.tdiv 32) = (N : Int) := by rw [IntKind.wrap_i64, Int.tdiv_eq_ediv_of_nonneg (by omega)]; omega
          have hmk' := hmk
          rw [← hwr] at hmk'
          clear hwr hN1 hmk y0 y1 hx2
          go_wp2_with fail
          generalize ((w.alloc (.cells #[.bool false, .slice none 0 0] 24)).alloc (.cells #[.bool false, .slice none 0 0] 24)) = W at *
          refine (refOf_any W (m : Int) (by omega) (by omega)).mono ?_
          rintro r w1 ⟨_, rfl, ⟨s1, A1, n1, c1, rfl, hs1, ho1⟩, hb1⟩
          have k7 := hx7.below' hb1
          have k2 := hx2'.below' hb1
          have y0 := k7.c0
          have y1 := k7.c1
          have y2 := k7.f0
          have y3 := k7.f1
          have k7' := (k7.set0 (.bool s1)).set1 (.slice A1 n1 c1)
          have k2' := (k2.far (p := ⟨w.heap.size + 1, 0, none⟩) (by show w.heap.size ≠ w.heap.size + 1; omega) (.bool s1)).far (p := ⟨w.heap.size + 1, 1, none⟩) (by show w.heap.size ≠ w.heap.size + 1; omega) (.slice A1 n1 c1)
          have o1 := (ho1.box k7 0 (.bool s1)).box (k7.set0 (.bool s1)) 1 (.slice A1 n1 c1)
          have e1 := ((hb0.trans (hb1.mono (by omega))).setCell (p := ⟨w.heap.size + 1, 0, none⟩) (by show w.heap.size ≤ w.heap.size + 1; omega) (.bool s1)).setCell (p := ⟨w.heap.size + 1, 1, none⟩) (by show w.heap.size ≤ w.heap.size + 1; omega) (.slice A1 n1 c1)
          have hs9 := hb1.size
          go_wp2_with fail
          generalize (w1.setCell ⟨w.heap.size + 1, 0, none⟩ (.bool s1)).setCell ⟨w.heap.size + 1, 1, none⟩ (.slice A1 n1 c1) = V at *
          clear y0 y1 y2 y3 k7 k2 hx7 hx2' hb0 hb1 ho1 hsz hs9
          have y0 := k7'.c0
          have y1 := k7'.c1
          have hn1 := o1.2.1
          have hn8 : n1 ≤ 2 := by
            rw [← hn1]
            exact (Lm.digits_length _ 2).2 (by simp only [Int.natAbs_natCast]; omega)
          have hVs : w.heap.size + 2 ≤ V.heap.size := by have := k7'.lt; omega
          have hnew : Own (V.alloc (.cells (arr (List.replicate N 0)) 60)).drew (w.heap.size + 2) (some ⟨V.heap.size, 0, none⟩) N N (List.replicate N 0) := by
            have := Own.new V (w.heap.size + 2) (List.replicate N 0) (Lm.small_replicate N) hVs (by rw [List.length_replicate]; unfold maxLen; omega)
            rw [List.length_replicate] at this
            exact this
          have hVb : Below V.heap.size V (V.alloc (.cells (arr (List.replicate N 0)) 60)).drew := ((Below.refl _ V).alloc (Nat.le_refl _) (.cells (arr (List.replicate N 0)) 60)).drew
          obtain ⟨A2, c2, w2, hrun, hO, hBe⟩ := append_lim (V.alloc (.cells (arr (List.replicate N 0)) 60)).drew (w.heap.size + 2) _ N N _ hnew A1 n1 c1 _ (o1.lim.below hVb) (by omega) (by have := hVb.size; omega) 22
          have hR := Lib.hid hrun
          have q7 := k7'.below' hVb
          have q2a := k2'.below' hVb
          have q8 := q7.below hBe (by omega)
          have q2 := q2a.below hBe (by omega)
          have e2 := e1.trans (hVb.mono e1.size)
          have e3 := e2.trans (hBe.mono (by omega))
          clear hrun hnew k7' k2' e1 e2 q2a hVb
          go_region_held3 (fun w' => w'.cell? ⟨w.heap.size + 1, 0, none⟩ = some (.bool s1) ∧ w'.cell? ⟨w.heap.size + 1, 1, none⟩ = some (.slice A1 n1 c1))
            (first | exact ⟨y0, y1⟩ | exact ⟨q7.c0, q7.c1⟩ | exact ⟨q8.c0, q8.c1⟩)
            (first | (refine step_append_run rfl (.tmp 51) (.tmp 53) 22 rfl _ _ _ rfl rfl hR.out ?_))
          go_wp2_with fail
          obtain ⟨u, hu⟩ : ∃ u : Nat, e % 32 = (u : Int) := ⟨(e % 32).toNat, by omega⟩
          rw [hu]
          have hu31 : u ≤ 31 := by omega
          have hp31 : 2 ^ u ≤ 2147483648 := Nat.le_trans (Nat.pow_le_pow_right (by omega) hu31) (by decide)
          have hpu := Nat.two_pow_pos u
          have HK : Hid (K = 4294967296 ^ N * m * 2 ^ u ∧ m ≠ 0) := Lib.hid ⟨by
            rw [HF.out.1, pow_32]
            have : E = 32 * N + u := by have := HN.out; omega
            rw [this, Nat.pow_add, Nat.mul_comm m, Nat.mul_right_comm], hm⟩
          have HL := Lib.hid HF.out.2
          rw [Int.natAbs_natCast] at hO hn1
          have hTs := hO.1
          have hTv := Lib.hid (val_zeros2 N m)
          have hTt := Lib.hid (top_zeros (N := N) hm)
          have hTl : (List.replicate N 0 ++ Lm.digits m).length = N + n1 := hO.2.1
          have HT := Lib.hid hTl
          have hL1 : 0 < N + n1 := by
            rcases Nat.eq_zero_or_pos n1 with h | h
            · rw [h] at hn1
              exact absurd (Lm.digits_eq_nil.1 (List.eq_nil_of_length_eq_zero hn1)) hm
            · omega
          rw [hn1] at hTt
          have hw2 : w.heap.size + 2 ≤ w2.heap.size := by have := q8.lt; omega
          generalize List.replicate N 0 ++ Lm.digits m = T0 at *
          obtain ⟨L, hLd⟩ : ∃ L, L = N + n1 := ⟨_, rfl⟩
          rw [← hLd] at hO hTl hL1 hTt HT ⊢
          have hL11 : L ≤ 11 := by omega
          clear hu HF HG HE HN hmk' hR q7 q8 y0 y1 hBe hn1 hLd o1 hs1 hTl hm hmz hVs
          go_loopw [10, 11] (fun cv iv w' => ∃ (i c : Nat) (t : List Nat), cv = .int .u64 (c : Int) ∧ iv = .int .i64 (i : Int) ∧ i ≤ L ∧ c < 2 ^ u ∧ Own w' (w.heap.size + 2) A2 L c2 t ∧ Box w' w.heap.size (.bool false) (.slice none 0 0) ∧ Below w.heap.size w w' ∧ w.heap.size + 2 ≤ w'.heap.size ∧ Hid (Lm.val (t.take i) + 4294967296 ^ i * c = Lm.val (T0.take i) * 2 ^ u ∧ ∀ j, i ≤ j → Lm.lg t j = Lm.lg T0 j)) (fun _ iv _ => L - (intOf iv).toNat)
          case atStart => exact ⟨0, 0, T0, rfl, rfl, Nat.zero_le _, hpu, hO, q2, e3, hw2, Lib.hid ⟨by simp [Lm.val], fun _ _ => rfl⟩⟩
          case round =>
            obtain ⟨i, cr, t, rfl, rfl, hiL, hcu, ho, hB2, hbl, hsz2, hinv⟩ := hrel
            obtain ⟨gb, hA2, hgb, hglt, hcell, hfz, hset⟩ := ho.at hL1
            subst hA2
            by_cases hi : i < L
            · have hcl := hcell i hi
              have hfr := hfz i
              have hX0 := hinv.out.2 i (Nat.le_refl _)
              have hXlt := Lm.lg_lt hTs i
              rw [hX0] at hcl
              have HX := Lib.hid (rfl : Lm.lg T0 i = Lm.lg T0 i)
              obtain ⟨X, hX⟩ : ∃ X, Lm.lg T0 i = X := ⟨_, rfl⟩
              rw [hX] at hcl hXlt
              have hXu : X * 2 ^ u + cr < 18446744073709551616 := by
                have h1 := Nat.mul_le_mul_right (2 ^ u) (show X + 1 ≤ 4294967296 by omega)
                rw [Nat.add_mul, Nat.one_mul] at h1
                omega
              have hwr := wrap_shl (m := X) (d := u) (by omega)
              have hor := or_join' (x := cr) (y := X) u hcu hXu
              obtain ⟨sv, hsv⟩ : ∃ sv, sv = X * 2 ^ u + cr := ⟨_, rfl⟩
              rw [← hsv] at hor
              have hcr2 : sv / 4294967296 < 2 ^ u := by
                rw [Nat.div_lt_iff_lt_mul (by decide), hsv]
                have h1 := Nat.mul_le_mul_right (2 ^ u) (show X + 1 ≤ 4294967296 by omega)
                rw [Nat.add_mul, Nat.one_mul] at h1
                rw [Nat.mul_comm (2 ^ u) 4294967296]
                omega
              have hstep := Lib.hid (shl_step (by rw [ho.2.1]; exact hi) hinv.out.1 hX hsv)
              have hkeep : Hid (∀ j, i + 1 ≤ j → Lm.lg (t.set i (sv % 4294967296)) j = Lm.lg T0 j) := Lib.hid (fun j hj => by
                rw [Lm.lg_set (by rw [ho.2.1]; exact hi), if_neg (by omega)]
                exact hinv.out.2 j (by omega))
              have hnew := hset i (sv % 4294967296) hi (Nat.mod_lt _ (by decide))
              have hB2' := hB2.far (p := ⟨gb, i, none⟩) (by show w.heap.size ≠ gb; omega) (.int .u32 ((sv % 4294967296 : Nat) : Int))
              have hbl' := hbl.setCell (p := ⟨gb, i, none⟩) (by show w.heap.size ≤ gb; omega) (.int .u32 ((sv % 4294967296 : Nat) : Int))
              have hcast : ((sv % 4294967296 : Nat) : Int) = (sv : Int) % 4294967296 := by omega
              rw [hcast] at hnew hB2' hbl'
              have HX' := Lib.hid hX
              have HS := Lib.hid hsv
              have hXu' : X * 2 ^ u < 18446744073709551616 := by omega
              generalize X * 2 ^ u = Y at *
              clear hcell hfz hset hX0 HX hX hsv hcast ho hB2 hbl
              go_wp2_with fail
              exact ⟨⟨i + 1, sv / 4294967296, t.set i (sv % 4294967296), congrArg (Value.int .u64) (by omega), by go_num, by omega, hcr2, hnew, hB2', hbl', by simp; omega, Lib.hid ⟨hstep.out, hkeep.out⟩⟩, by simp [intOf]; omega⟩
            · have hiL' : i = L := by omega
              subst hiL'
              have hval : Hid (Lm.val t + 4294967296 ^ i * cr = K) := Lib.hid (by
                have h1 := hinv.out.1
                rw [List.take_of_length_le (by rw [ho.2.1]; exact Nat.le_refl _), List.take_of_length_le (by rw [HT.out]; exact Nat.le_refl _), hTv.out] at h1
                rw [h1, HK.out.1])
              have hKge : Hid (4294967296 ^ (i - 1) ≤ K) := Lib.hid (by
                rw [HK.out.1]
                exact Nat.le_trans hTt.out (Nat.le_mul_of_pos_right _ hpu))
              have hKpos : Hid (g = decide (sgn g K < 0)) := Lib.hid (by
                have h1 : 0 < 4294967296 ^ (i - 1) := Nat.pow_pos (by decide)
                have h2 := hKge.out
                unfold sgn
                cases g with
                | false => simp
                | true => simp; omega)
              have d0 := hB2.c0
              have d1 := hB2.c1
              have g0 := hB2.f0
              have g1 := hB2.f1
              have hcr32 : cr < 4294967296 := by omega
              clear hcell hfz hset hinv
              by_cases hc0 : cr = 0
              · subst hc0
                have hdig : Hid (Lm.digits K = t) := Lib.hid (digits_row ho.1 (by have := hval.out; omega) (by rw [ho.2.1]; exact hL1) (by rw [ho.2.1]; exact hKge.out))
                have ho' : Own wr (w.heap.size + 2) (some ⟨gb, 0, none⟩) i c2 (Lm.digits (sgn g K).natAbs) := by rw [natAbs_sgn, hdig.out]; exact ho
                obtain ⟨hE1, hE2, hE3⟩ := close_num (z := sgn g K) (base' := w.heap.size) hB2 (Nat.le_refl _) hbl hKpos ho' (by omega)
                clear ho ho' hTs hTt hTv hval hKge hdig hsz2 hw2
                go_wp2
                generalize (wr.setCell ⟨w.heap.size, 0, none⟩ (.bool g)).setCell ⟨w.heap.size, 1, none⟩ (.slice (some ⟨gb, 0, none⟩) i c2) = Z at *
                have t0 := hE1.c0
                have t1 := hE1.c1
                refine bodyPost_ret (v := .tuple #[.agg #[.bool g, .slice (some ⟨gb, 0, none⟩) i c2], .bool rest]) (by simp [results, Try.results84, go_sem, t0, t1]) rfl ?_
                rw [HL.out]
                exact ⟨_, rfl, hE2, hE3⟩
              · have hc1 : (0 : Int) < (cr : Int) := by omega
                obtain ⟨A3, c3, w3, hrun, hO3, hBe3⟩ := append_one wr (w.heap.size + 2) _ i c2 t ho cr hcr32 (by omega) hsz2 22
                have hR3 := Lib.hid hrun
                clear hrun
                have hdig : Hid (Lm.digits K = t ++ [cr]) := Lib.hid (digits_row hO3.1 (by rw [Lm.val_append, ho.2.1, show Lm.val [cr] = cr by simp [Lm.val]]; exact hval.out) (by simp) (by
                  rw [List.length_append, ho.2.1, show i + [cr].length - 1 = i by simp]
                  rw [← hval.out]
                  have := Nat.le_mul_of_pos_right (4294967296 ^ i) (show 0 < cr by omega)
                  omega))
                have ho' : Own w3 (w.heap.size + 2) A3 (i + 1) c3 (Lm.digits (sgn g K).natAbs) := by rw [natAbs_sgn, hdig.out]; exact hO3
                have hB3 := hB2.below hBe3 (by omega)
                have hbl3 := hbl.trans (hBe3.mono (by omega))
                obtain ⟨hE1, hE2, hE3⟩ := close_num (z := sgn g K) (base' := w.heap.size) hB3 (Nat.le_refl _) hbl3 hKpos ho' (by omega)
                have d0' := hB3.c0
                have d1' := hB3.c1
                have g0' := hB3.f0
                have g1' := hB3.f1
                clear ho ho' hTs hTt hTv hval hKge hdig hsz2 hw2 hB2 hO3 hc0
                go_wp2_with (at_builtin; refine wpList_append_run rfl _ _ _ rfl _ _ _ rfl rfl hR3.out ?_)
                generalize (w3.setCell ⟨w.heap.size, 0, none⟩ (.bool g)).setCell ⟨w.heap.size, 1, none⟩ (.slice A3 (i + 1) c3) = Z at *
                have t0 := hE1.c0
                have t1 := hE1.c1
                refine bodyPost_ret (v := .tuple #[.agg #[.bool g, .slice A3 (i + 1) c3], .bool rest]) (by simp [results, Try.results84, go_sem, t0, t1]) rfl ?_
                rw [HL.out]
                exact ⟨_, rfl, hE2, hE3⟩

set_option maxRecDepth 100000 in
/-- The reference's whole, of a float that is not too great. -/
theorem refWhole_any (w : World) (b : Int) (hb : U64 b) (hE : Fl.rg b.toNat / 4503599627370496 < 1323) :
    Calls Try.prog 84 #[.int .u64 b] w (NumPost w (sgn (Fl.ng b.toNat) (Fl.wh (Fl.rg b.toNat))) (Fl.lf (Fl.rg b.toNat))) := by
  have hM : Fl.mt (Fl.rg b.toNat) < 9007199254740992 := Fl.mt_lt
  have hsg : (b / 9223372036854775808 == 1) = Fl.ng b.toNat := by
    cases hg : Fl.ng b.toNat with
    | false => exact (key_pos hb hg).1
    | true => exact (key_neg hb hg).1
  refine refWhole_at w b _ _ (Fl.mt (Fl.rg b.toNat)) (Fl.pl (Fl.rg b.toNat)) _ hM ?_ hsg (Lib.hid fun s h1 h2 => Fl.wh_at h1 h2) (Lib.hid ?_)
  · by_cases h : Fl.rg b.toNat / 4503599627370496 = 0
    · rw [(mt_lo h).2]; omega
    · have := (mt_hi h).2; omega
  · by_cases h : Fl.rg b.toNat / 4503599627370496 = 0
    · left
      refine ⟨(mt_lo h).2, by rw [bE hb, h]; rfl, by rw [bM hb, (mt_lo h).1]⟩
    · right
      refine ⟨_, ?_, rfl, ?_⟩
      · rw [bE hb]; have := (mt_hi h).2; omega
      · rw [bM hb, bO (Nat.mod_lt _ (by decide)), (mt_hi h).1]
end Go.Proofs.Ytmcfokeibecopaa
