/-
  SIGNS, NEUTRAL FLOATS, NaN (no Go here).
-/
import Derived.Test.YtompimbeaeinbaaGreatFltAw
namespace Go.Proofs.YtompimbeaeinbaaGreat
namespace Fl
open Ieee

set_option maxRecDepth 100000 in
theorem sum_comm (x y : Datum) : x.sum y = y.sum x := by
  cases x with
  | nan => cases y <;> rfl
  | infinity s =>
    cases y with
    | nan => rfl
    | infinity t => cases s <;> cases t <;> rfl
    | number => rfl
  | number s m i =>
    cases y with
    | nan => rfl
    | infinity t => rfl
    | number t n j =>
      simp only [Datum.sum]
      rw [Int.min_comm j i, Int.add_comm (signed t n _), Bool.and_comm t s]
set_option maxRecDepth 100000 in
theorem add_comm (a b : Nat) : double.add a b = double.add b a := by
  unfold Format.add; rw [sum_comm]
set_option maxRecDepth 100000 in
theorem opp_product (x y : Datum) : x.opposite.product y = (x.product y).map Datum.opposite := by
  cases x <;> cases y <;> simp only [Datum.opposite, Datum.product, Option.map_none, Option.map_some]
  · rename_i s m i t n j; cases s <;> cases t <;> rfl
  · rename_i s m i t; split
    · rfl
    · cases s <;> cases t <;> rfl
  · rename_i s t n j; split
    · rfl
    · cases s <;> cases t <;> rfl
  · rename_i s t; cases s <;> cases t <;> rfl
set_option maxRecDepth 100000 in
theorem product_opp (x y : Datum) : x.product y.opposite = (x.product y).map Datum.opposite := by
  rw [product_comm, opp_product, product_comm]
set_option maxRecDepth 100000 in
theorem opp_quotient (k : Nat) (x y : Datum) : x.opposite.quotient k y = (x.quotient k y).map Datum.opposite := by
  cases x <;> cases y <;> simp only [Datum.opposite, Datum.quotient, Option.map_none, Option.map_some]
  · rename_i s m i t n j
    split
    · split
      · rfl
      · cases s <;> cases t <;> rfl
    · cases s <;> cases t <;> rfl
  · rename_i s m i t; cases s <;> cases t <;> rfl
  · rename_i s t n j; cases s <;> cases t <;> rfl
set_option maxRecDepth 100000 in
theorem quotient_opp (k : Nat) (x y : Datum) : x.quotient k y.opposite = (x.quotient k y).map Datum.opposite := by
  cases x <;> cases y <;> simp only [Datum.opposite, Datum.quotient, Option.map_none, Option.map_some]
  · rename_i s m i t n j
    split
    · split
      · rfl
      · cases s <;> cases t <;> rfl
    · cases s <;> cases t <;> rfl
  · rename_i s m i t; cases s <;> cases t <;> rfl
  · rename_i s t n j; cases s <;> cases t <;> rfl
set_option maxRecDepth 100000 in
theorem flip_word {s : Bool} {r : Nat} (h : r < S) : flip (double.word s r) = double.word (!s) r := by
  unfold flip; rw [word_ng h, word_rg h]
set_option maxRecDepth 100000 in
theorem nearest_word (m : Nat) (p : Int) : ∃ r, r < S ∧ ∀ s, double.nearest s m p = double.word s r := by
  unfold Format.nearest
  simp only [cut_even]
  by_cases h : m = 0
  · exact ⟨0, by decide, fun s => by rw [if_pos h]⟩
  · refine ⟨_, ?_, fun s => by rw [if_neg h]⟩
    rw [inf_eq]
    exact Nat.lt_of_le_of_lt (Nat.min_le_right ..) INF_lt_S
set_option maxRecDepth 100000 in
theorem write_opp {d : Datum} (h : Num d) : double.write d.opposite = flip (double.write d) := by
  cases d with
  | nan => exact absurd h id
  | infinity s =>
    show double.word (!s) double.infRung = flip (double.word s double.infRung)
    rw [inf_eq, flip_word INF_lt_S]
  | number s m p =>
    obtain ⟨r, h1, h2⟩ := nearest_word m p
    show double.nearest (!s) m p = flip (double.nearest s m p)
    rw [h2, h2, flip_word h1]
set_option maxRecDepth 100000 in
theorem map_opp {o : Option Datum} (hn : ∀ d, o = some d → Num d) : (o.map Datum.opposite).map double.write = (o.map double.write).map flip := by
  cases o with
  | none => rfl
  | some d => simp only [Option.map_some]; rw [write_opp (hn d rfl)]
set_option maxRecDepth 100000 in
theorem flip_mul (a b : Nat) : double.mul (flip a) b = (double.mul a b).map flip := by
  unfold Format.mul; rw [read_flip, opp_product, map_opp (fun _ => product_num)]
set_option maxRecDepth 100000 in
theorem mul_flip (a b : Nat) : double.mul a (flip b) = (double.mul a b).map flip := by
  unfold Format.mul; rw [read_flip, product_opp, map_opp (fun _ => product_num)]
set_option maxRecDepth 100000 in
theorem flip_div (a b : Nat) : double.div (flip a) b = (double.div a b).map flip := by
  unfold Format.div; rw [read_flip, opp_quotient, map_opp (fun _ => quotient_num)]
set_option maxRecDepth 100000 in
theorem div_flip (a b : Nat) : double.div a (flip b) = (double.div a b).map flip := by
  unfold Format.div; rw [read_flip, quotient_opp, map_opp (fun _ => quotient_num)]
set_option maxRecDepth 100000 in
theorem flip_flip {a : Nat} (h : a < 2 * S) : flip (flip a) = a := by
  show double.word (!ng (flip a)) (rg (flip a)) = a
  rw [flip_ng, flip_rg, Bool.not_not, word_eq h]

set_option maxRecDepth 100000 in
theorem nan_add {a b : Nat} (h : nanB a = true ∨ nanB b = true) : double.add a b = none := by
  have key : ∀ a b, nanB a = true → double.add a b = none := by
    intro a b h
    unfold Format.add
    rw [read_nan (of_decide_eq_true h)]; rfl
  rcases h with h | h
  · exact key a b h
  · rw [add_comm]; exact key b a h
set_option maxRecDepth 100000 in
theorem nan_mul {a b : Nat} (h : nanB a = true ∨ nanB b = true) : double.mul a b = none := by
  have key : ∀ a b, nanB a = true → double.mul a b = none := by
    intro a b h
    unfold Format.mul
    rw [read_nan (of_decide_eq_true h)]; rfl
  rcases h with h | h
  · exact key a b h
  · rw [mul_comm]; exact key b a h
set_option maxRecDepth 100000 in
theorem nan_div {a b : Nat} (h : nanB a = true ∨ nanB b = true) : double.div a b = none := by
  unfold Format.div
  rcases h with h | h
  · rw [read_nan (of_decide_eq_true h)]; rfl
  · rw [read_nan (a := b) (of_decide_eq_true h)]
    cases double.read a <;> rfl
set_option maxRecDepth 100000 in
theorem nan_flip (a : Nat) : nanB (flip a) = nanB a := by unfold nanB; rw [flip_rg]
set_option maxRecDepth 100000 in
theorem fin_or {a : Nat} (h : nanB a = false) : rg a < INF ∨ rg a = INF := by
  have := of_decide_eq_false h
  omega
set_option maxRecDepth 100000 in
theorem sv_flip (a : Nat) : sv (flip a) = -sv a := by
  unfold sv sgnd; rw [flip_ng, flip_rg]
  cases ng a <;> simp

set_option maxRecDepth 100000 in
/-- a + 0 -/
theorem add_zero {a : Nat} (h : a < 2 * S) (hn : nanB a = false) : double.add a 0 = some (if a = S then 0 else a) := by
  have h0 : rg 0 < INF := by decide
  rcases fin_or hn with hf | hf
  · rw [add_fin hf h0, show sv 0 = 0 by decide, Int.add_zero]
    have e1 : (sv a).natAbs = val (rg a) := natAbs_sgnd _ _
    rw [e1, R_val hf, show ng 0 = false by decide, Bool.and_false]
    congr 1
    by_cases hz : rg a = 0
    · have hv : sv a = 0 := by unfold sv; rw [hz, val_zero]; unfold sgnd; split <;> rfl
      rw [if_pos hv, hz, word_false]
      have hs := split_eq a h
      rw [hz, Nat.add_zero] at hs
      cases hg : ng a
      · rw [hg] at hs; simp only [Bool.false_eq_true, if_false] at hs; rw [hs]; rfl
      · rw [hg] at hs; simp only [if_true] at hs; rw [if_pos hs]
    · have hv : 0 < val (rg a) := by
        have := val_lt (show 0 < rg a by omega)
        omega
      have hne : a ≠ S := by
        intro e
        rw [e] at hz
        exact hz (by decide)
      rw [if_neg hne]
      have e2 : sv a ≠ 0 := by omega
      rw [if_neg e2]
      have e3 : decide (sv a < 0) = ng a := by
        unfold sv sgnd
        cases ng a
        · simp only [Bool.false_eq_true, if_false]; exact decide_eq_false (by omega)
        · simp only [if_true]; exact decide_eq_true (by omega)
      rw [e3, word_eq h]
  · unfold Format.add
    rw [read_inf hf, read_num h0]
    simp only [Datum.sum, Option.map_some]
    have hne : a ≠ S := by
      intro e
      rw [e] at hf
      exact absurd hf (by decide)
    rw [if_neg hne]
    congr 1
    show double.word (ng a) double.infRung = a
    rw [inf_eq, ← hf, word_eq h]
set_option maxRecDepth 100000 in
theorem inf_word {a : Nat} (h : a < 2 * S) (hf : rg a = INF) : double.word (ng a) double.infRung = a := by
  rw [inf_eq, ← hf, word_eq h]
set_option maxRecDepth 100000 in
theorem one_read : double.read ONE = .number false B (-52) := by
  rw [read_num one_fin, one_ng, one_mt, one_pl]; rfl
set_option maxRecDepth 100000 in
theorem mul_one_any {a : Nat} (h : a < 2 * S) (hn : nanB a = false) : double.mul a ONE = some a := by
  rcases fin_or hn with hf | hf
  · exact mul_one hf h
  · unfold Format.mul
    rw [read_inf hf, one_read]
    simp only [Datum.product]
    rw [if_neg (by decide), Bool.xor_false]
    simp only [Option.map_some]
    congr 1
    exact inf_word h hf
set_option maxRecDepth 100000 in
theorem div_one {a : Nat} (h : a < 2 * S) (hn : nanB a = false) : double.div a ONE = some a := by
  rcases fin_or hn with hf | hf
  · rw [div_pow hf one_fin one_mt 0 (by rw [one_pl]), one_ng, R_val hf, Bool.xor_false, word_eq h]
  · unfold Format.div
    rw [read_inf hf, one_read]
    simp only [Datum.quotient, Bool.xor_false, Option.map_some]
    congr 1
    exact inf_word h hf
set_option maxRecDepth 100000 in
theorem sub_self {a : Nat} (hn : rg a < INF) : double.sub a a = some 0 := by
  have hf' : rg (flip a) < INF := by rw [flip_rg]; exact hn
  rw [sub_eq_add, add_fin hn hf', sv_flip, flip_ng]
  rw [show sv a + -sv a = 0 by omega, if_pos rfl, Bool.and_not_self]
  congr 1
set_option maxRecDepth 100000 in
theorem sub_inf {a : Nat} (hn : rg a = INF) : double.sub a a = none := by
  unfold Format.sub
  rw [read_inf hn]
  cases ng a <;> rfl
set_option maxRecDepth 100000 in
/-- Sums of two that are turned. -/
theorem flip_add (a b : Nat) (ha : nanB a = false) (hb : nanB b = false) :
    double.add (flip a) (flip b) = (double.add a b).map flip ∨ (∃ x y, double.add a b = some x ∧ double.add (flip a) (flip b) = some y ∧ rg x = 0 ∧ rg y = 0) := by
  rcases fin_or ha with fa | fa <;> rcases fin_or hb with fb | fb
  · have fa' : rg (flip a) < INF := by rw [flip_rg]; exact fa
    have fb' : rg (flip b) < INF := by rw [flip_rg]; exact fb
    rw [add_fin fa fb, add_fin fa' fb', sv_flip, sv_flip, flip_ng, flip_ng]
    by_cases h0 : sv a + sv b = 0
    · right
      have h0' : -sv a + -sv b = 0 := by omega
      rw [h0, h0']
      refine ⟨_, _, rfl, rfl, ?_, ?_⟩ <;> rw [show (0 : Int).natAbs = 0 from rfl, R_zero, word_rg (by decide)]
    · left
      have h0' : ¬ (-sv a + -sv b = 0) := by omega
      rw [if_neg h0, if_neg h0', show -sv a + -sv b = -(sv a + sv b) by omega, Int.natAbs_neg]
      simp only [Option.map_some]
      rw [flip_word (R_lt _ _)]
      congr 2
      by_cases h1 : sv a + sv b < 0
      · rw [decide_eq_true h1, decide_eq_false (by omega)]; rfl
      · rw [decide_eq_false h1, decide_eq_true (by omega)]; rfl
  · left
    have fb' : rg (flip b) = INF := by rw [flip_rg]; exact fb
    have fa' : rg (flip a) < INF := by rw [flip_rg]; exact fa
    unfold Format.add
    rw [read_num fa, read_inf fb, read_num fa', read_inf fb', flip_ng b]
    simp only [Datum.sum, Option.map_some]
    congr 1
    exact write_opp (d := .infinity (ng b)) trivial
  · left
    have fb' : rg (flip b) < INF := by rw [flip_rg]; exact fb
    have fa' : rg (flip a) = INF := by rw [flip_rg]; exact fa
    unfold Format.add
    rw [read_inf fa, read_num fb, read_inf fa', read_num fb', flip_ng a]
    simp only [Datum.sum, Option.map_some]
    congr 1
    exact write_opp (d := .infinity (ng a)) trivial
  · left
    have fb' : rg (flip b) = INF := by rw [flip_rg]; exact fb
    have fa' : rg (flip a) = INF := by rw [flip_rg]; exact fa
    unfold Format.add
    rw [read_inf fa, read_inf fb, read_inf fa', read_inf fb', flip_ng, flip_ng]
    simp only [Datum.sum]
    by_cases h : ng a = ng b
    · rw [if_pos h, if_pos (by rw [h])]
      simp only [Option.map_some]
      congr 1
      exact write_opp (d := .infinity (ng a)) trivial
    · rw [if_neg h, if_neg (by intro e; apply h; cases h1 : ng a <;> cases h2 : ng b <;> simp_all)]
      rfl
end Fl
end Go.Proofs.YtompimbeaeinbaaGreat
