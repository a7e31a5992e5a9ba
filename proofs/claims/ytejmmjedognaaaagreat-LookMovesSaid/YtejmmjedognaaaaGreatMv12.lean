/-
  CONTRACTS OF slices.Clone, num.Neg, Small, Of.
  CONTRACTS OF num.Of, Small.
  THE CONTRACTS OF PACKAGE num, SAID OF INTEGERS.
-/
import Derived.Test.YtejmmjedognaaaaGreatMv11
namespace Go.Proofs.YtejmmjedognaaaaGreat
open Go.RowKit

set_option maxRecDepth 100000 in
theorem wpList_append_run {P : Program} {w w' : World} {ops : Array Oper} {rest : List Oper} {o : Oper} {a : Act} {Q : Exit → Act → World → Prop} (hgd : o.guard = none) (s x : Operand) (t : TypeId)
    (ho : o.op = .call { callee := .builtin .append, args := #[s, x], argTypes := #[t, t] }) (v y v' : Value) (hs : a.eval s = v) (hx : a.eval x = y)
    (hrun : (Builtin.append_ #[t, t] o.type #[v, y]).run P w = .ok v' w') (h : wpList P ops Q rest (a.put o.dst v') w') : wpList P ops Q (o :: rest) a w := by
  refine wpList_plain hgd fun K hK' => ?_
  unfold Oper.wp
  simp [execOp, ho, resolve, invoke, builtin, hs, hx, hrun, Result.andThen]
  exact hK' _ _ h

set_option maxRecDepth 100000 in
/-- append(row, limbs...), the limbs nil, empty or not. -/
theorem append_lim (w : World) (base : Nat) (A0 : Option Addr) (n0 c0 : Nat) (l0 : List Nat) (hown : Own w base A0 n0 c0 l0) (A : Option Addr) (n c : Nat) (l : List Nat) (h : Lim w A n c l) (hn : n0 + n ≤ 100000) (hbase : base ≤ w.heap.size) (ty : TypeId) :
    ∃ A' c' w', (Builtin.append_ #[35, 35] ty #[.slice A0 n0 c0, .slice A n c]).run Tryz.prog w = .ok (.slice A' (n0 + n) c') w' ∧ Own w' base A' (n0 + n) c' (l0 ++ l) ∧ Below base w w' := by
  obtain ⟨i, hi, hz, hs, hb⟩ := info_limb'
  cases A with
  | none =>
    have h0 : n = 0 := by
      rcases Nat.eq_zero_or_pos n with h0 | h0
      · exact h0
      · obtain ⟨b, o, e, _⟩ := h.2.2.2 h0
        cases e
    subst h0
    have hl : l = [] := List.eq_nil_of_length_eq_zero h.1
    subst hl
    refine ⟨A0, c0, w, ?_, by simpa using hown, Below.refl _ _⟩
    rcases hown.2.2.2 with ⟨hv, h0⟩ | ⟨g, cap, cur, hv, _, _, hnc, _⟩
    · injection hv with hA _ hc
      subst hA hc h0
      simp [Builtin.append_, run_underlying und_limbs, sizeOf, typeInfo, hi, Builtin.lenOf, Builtin.firstCells]
    · injection hv with hA _ hc
      subst hA hc
      simp [Builtin.append_, run_underlying und_limbs, sizeOf, typeInfo, hi, Builtin.lenOf, Builtin.firstCells, hnc, storeCells]
  | some ad =>
    have hcells : ∀ j u, (limbVs l)[j]? = some u → w.cell? (ad.add j) = some u := by
      intro j u hu
      have hj : j < l.length := by
        rcases Nat.lt_or_ge j l.length with hj | hj
        · exact hj
        · rw [List.getElem?_eq_none (by rw [limbVs_len]; exact hj)] at hu; cases hu
      obtain ⟨b, o, e, _, hc⟩ := h.2.2.2 (by have := h.1; omega)
      injection e with e
      subst e
      rw [limbVs_get hj] at hu
      injection hu with hu
      subst hu
      have hadd : (⟨b, o, none⟩ : Addr).add j = ⟨b, o + j, none⟩ := by unfold Addr.add; split <;> simp_all
      rw [hadd]
      exact hc j (by have := h.1; omega)
    have h1 : ∀ u ∈ limbVs l, u.oneCell' = true := by
      intro u hu
      simp only [limbVs, List.mem_map] at hu
      obtain ⟨x, _, rfl⟩ := hu
      rfl
    obtain ⟨v', w', hrun, ho, hg, _⟩ := run_append_own (P := Tryz.prog) w base 35 ty 128 i (.int .u32 0) 1 4 und_limbs hi hz hs hb rfl (by decide) (.slice A0 n0 c0) n0 (limbVs l0) hown.2.2 ad n c (limbVs l) (by rw [limbVs_len, h.1]; omega) hcells h1 (by unfold maxLen; omega) (by omega) hbase
    have hlen : l0.length = n0 := hown.2.1
    have hform : ∃ A' c', v' = .slice A' (n0 + n) c' := by
      rcases ho.2 with ⟨rfl, h0⟩ | ⟨g, cap, cur, rfl, _⟩
      · exact ⟨none, 0, by rw [h0]⟩
      · exact ⟨_, _, rfl⟩
    obtain ⟨A', c', rfl⟩ := hform
    have happ : limbVs l0 ++ limbVs l = limbVs (l0 ++ l) := by simp [limbVs]
    rw [happ] at ho
    refine ⟨A', c', w', hrun, ⟨Lm.small_append.2 ⟨hown.1, h.2.2.1⟩, by rw [List.length_append, hlen, h.1], ho⟩, ?_⟩
    refine (Below.refl base w).grown hg hbase (fun k hk => ?_)
    exact (World.ownsRow.lt hown.2.2 k hk).1

/-- What a call leaves that makes a row of given limbs. -/
def CopyPost (w : World) (n : Nat) (l : List Nat) (e : Ending) (w' : World) : Prop :=
  ∃ A c, e = .returned (.slice A n c) ∧ Own w' w.heap.size A n c l ∧ Below w.heap.size w w'

/-- num.Neg. -/
def OnePost (w : World) (z : Int) (e : Ending) (w' : World) : Prop := ∃ V, e = .returned V ∧ NumV w' w.heap.size V z ∧ Below w.heap.size w w'

end Go.Proofs.YtejmmjedognaaaaGreat

namespace Go.Proofs.YtejmmjedognaaaaGreat
open Go.RowKit

set_option maxRecDepth 100000 in
theorem of_limbs_neg (z : Int) (h1 : -9223372036854775808 ≤ z) (h2 : z < 0) :
    ∃ t : List Nat, (#[Value.int .u32 (IntKind.u64.wrap (-IntKind.u64.wrap z) % 4294967296), Value.int .u32 (IntKind.u64.wrap (-IntKind.u64.wrap z) / 4294967296 % 4294967296)] : Array Value) = arr t ∧ t.length = 2 ∧ Lm.Small t ∧ Lm.val t = z.natAbs := by
  refine ⟨[z.natAbs % 4294967296, z.natAbs / 4294967296], ?_, rfl, ?_, ?_⟩
  · have e1 : IntKind.u64.wrap (-IntKind.u64.wrap z) % 4294967296 = ((z.natAbs % 4294967296 : Nat) : Int) := by rw [IntKind.wrap_u64, IntKind.wrap_u64]; omega
    have e2 : IntKind.u64.wrap (-IntKind.u64.wrap z) / 4294967296 % 4294967296 = ((z.natAbs / 4294967296 : Nat) : Int) := by rw [IntKind.wrap_u64, IntKind.wrap_u64]; omega
    rw [e1, e2]
    rfl
  · intro x hx
    simp at hx
    omega
  · simp only [Lm.val]; omega
set_option maxRecDepth 100000 in
theorem of_limbs_pos (z : Int) (h1 : 0 ≤ z) (h2 : z ≤ 9223372036854775807) :
    ∃ t : List Nat, (#[Value.int .u32 (z % 4294967296), Value.int .u32 (z / 4294967296)] : Array Value) = arr t ∧ t.length = 2 ∧ Lm.Small t ∧ Lm.val t = z.natAbs := by
  refine ⟨[z.natAbs % 4294967296, z.natAbs / 4294967296], ?_, rfl, ?_, ?_⟩
  · have e1 : z % 4294967296 = ((z.natAbs % 4294967296 : Nat) : Int) := by omega
    have e2 : z / 4294967296 = ((z.natAbs / 4294967296 : Nat) : Int) := by omega
    rw [e1, e2]
    rfl
  · intro x hx
    simp at hx
    omega
  · simp only [Lm.val]; omega

set_option maxRecDepth 100000 in
theorem or_u64 (v x : Nat) (hv : v ≤ 4294967295) (hx : x ≤ 4294967295) : bits .or .u64 (v : Int) ((x : Int) * 4294967296) = ((v + 4294967296 ^ 1 * x : Nat) : Int) := by
  have e : ((x : Int) * 4294967296) = ((x * 4294967296 : Nat) : Int) := by omega
  rw [e, bits_or_u64_nat _ _ (by omega) (by omega)]
  have h := Nat.shiftLeft_add_eq_or_of_lt (a := x) (b := v) (i := 32) (by omega)
  rw [Nat.shiftLeft_eq] at h
  rw [Nat.or_comm, ← h]
  congr 1
  omega
set_option maxRecDepth 100000 in
theorem or_u64_0 (x : Nat) (hx : x ≤ 4294967295) : bits .or .u64 0 (x : Int) = (x : Int) := by
  have h := bits_or_u64_nat 0 x (by omega) (by omega)
  simpa using h

/-- Is z from Least to Greatest? -/
def smallB (z : Int) : Bool := decide (-1152921504606846976 ≤ z) && decide (z ≤ 1152921504606846975)
/-- What num.Small leaves. -/
def SmallPost (w : World) (z : Int) (ok : Bool) (e : Ending) (w' : World) : Prop := e = .returned (.tuple #[.int .i64 z, .bool ok]) ∧ Below w.heap.size w w'

set_option maxRecDepth 100000 in
set_option maxHeartbeats 1000000 in
theorem small_no1 (w : World) (g : Bool) (A : Option Addr) (n c : Nat) (l : List Nat) (h : Raw w A n c l) (hm : mayB g l = false) :
    Calls Tryz.prog 159 #[.agg #[.bool g, .slice A n c]] w (SmallPost w 0 false) := by
  go_enter Tryz.func159, Tryz.ntmps159
  go_wp2_with fail
  have hb0 := ((Below.refl w.heap.size w).alloc (Nat.le_refl _) (.cells #[.bool g, .slice A n c] 37))
  have hxa := Box.new w (.bool g) (.slice A n c)
  have hAA := h.below hb0
  generalize w.alloc (.cells #[.bool g, .slice A n c] 37) = W at *
  refine (may_b W g A n c l hAA).mono ?_
  rintro e w1 ⟨rfl, hb1⟩
  have ya := hxa.below' hb1
  replace hAA := hAA.below hb1
  replace hb0 := hb0.trans (hb1.mono hb0.size)
  clear hxa hb1
  have x1 := ya.c0
  have x2 := ya.c1
  go_wp2
  go_ret2
  exact ⟨rfl, hb0⟩

set_option maxRecDepth 100000 in
set_option maxHeartbeats 1000000 in
theorem small_no2 (w : World) (g : Bool) (A : Option Addr) (n c : Nat) (l : List Nat) (h : Raw w A n c l) (hm : mayB g l = true) (h2 : 2 < n) :
    Calls Tryz.prog 159 #[.agg #[.bool g, .slice A n c]] w (SmallPost w 0 false) := by
  go_enter Tryz.func159, Tryz.ntmps159
  go_wp2_with fail
  have hb0 := ((Below.refl w.heap.size w).alloc (Nat.le_refl _) (.cells #[.bool g, .slice A n c] 37))
  have hxa := Box.new w (.bool g) (.slice A n c)
  have hAA := h.below hb0
  generalize w.alloc (.cells #[.bool g, .slice A n c] 37) = W at *
  refine (may_b W g A n c l hAA).mono ?_
  rintro e w1 ⟨rfl, hb1⟩
  have ya := hxa.below' hb1
  replace hAA := hAA.below hb1
  replace hb0 := hb0.trans (hb1.mono hb0.size)
  clear hxa hb1
  have x1 := ya.c0
  have x2 := ya.c1
  have h2' : decide ((2 : Int) < (n : Int)) = true := by rw [decide_eq_true_iff]; omega
  go_wp2
  go_ret2
  exact ⟨rfl, hb0⟩

set_option maxRecDepth 100000 in
set_option maxHeartbeats 2000000 in
theorem small_neg_in (w : World) (A : Option Addr) (n c : Nat) (l : List Nat) (h : Raw w A n c l) (hm : mayB true l = true) (h2 : n ≤ 2) (hv60 : Lm.val l ≤ 1152921504606846976) :
    Calls Tryz.prog 159 #[.agg #[.bool true, .slice A n c]] w (SmallPost w (-(Lm.val l : Int)) true) := by
  have h2' : decide ((2 : Int) < (n : Int)) = false := by rw [decide_eq_false_iff_not]; omega
  have h60 := Lib.hid hv60
  clear hv60
  go_enter Tryz.func159, Tryz.ntmps159
  go_wp2_with fail
  have hb0 := ((Below.refl w.heap.size w).alloc (Nat.le_refl _) (.cells #[.bool true, .slice A n c] 37))
  have hxa := Box.new w (.bool true) (.slice A n c)
  have hAA := h.below hb0
  generalize w.alloc (.cells #[.bool true, .slice A n c] 37) = W at *
  refine (may_b W true A n c l hAA).mono ?_
  rintro e w1 ⟨rfl, hb1⟩
  have ya := hxa.below' hb1
  replace hAA := hAA.below hb1
  replace hb0 := hb0.trans (hb1.mono hb0.size)
  clear hxa hb1
  have x1 := ya.c0
  have x2 := ya.c1
  go_wp2
  go_loop [4, 19] (fun u i => ∃ (j v : Nat), j ≤ n ∧ i = .int .i64 (j : Int) ∧ u = .int .u64 (v : Int) ∧ Hid (v = Lm.val (l.take j))) (fun _ i => n - (intOf i).toNat)
  case atStart => exact ⟨0, 0, Nat.zero_le _, rfl, rfl, Lib.hid rfl⟩
  case round =>
    obtain ⟨j, v, hj, rfl, rfl, hv⟩ := hrel
    by_cases h0 : j < n
    · obtain ⟨b, o, rfl, hb, hcell⟩ := hAA.1.2.2.2 (by omega)
      have hg := hcell j h0
      obtain ⟨x, hx⟩ : ∃ x, x = Lm.lg l j := ⟨_, rfl⟩
      have hl0 : x ≤ 4294967295 := by rw [hx]; have := Lm.lg_lt hAA.1.2.2.1 j; omega
      rw [← hx] at hg
      have hX := Lib.hid hx
      have hstep := Lib.hid (show Lm.val (l.take (j + 1)) = v + 4294967296 ^ j * x by rw [Lm.val_take_succ, hv.out, hx])
      clear hcell hx
      have hj2 : j = 0 ∨ j = 1 := by omega
      rcases hj2 with rfl | rfl
      · have hv0 : v = 0 := hv.out
        subst hv0
        rw [Nat.add_zero] at hg
        go_wp2
        go_round
        case rel => exact ⟨1, x, by omega, by go_num, by rw [or_u64_0 x hl0], Lib.hid (by rw [hstep.out]; simp)⟩
        case measure => simp [intOf]; omega
      · have hvl : v ≤ 4294967295 := by
          rw [hv.out]
          have := Lm.val_lt (Lm.small_take hAA.1.2.2.1 1)
          rw [List.length_take, Nat.min_eq_left (by rw [hAA.1.1]; omega)] at this
          omega
        go_wp2
        rw [or_u64 v x hvl hl0]
        exact ⟨⟨2, _, by omega, by go_num, rfl, Lib.hid hstep.out.symm⟩, by simp [intOf]; omega⟩
    · have hjn : j = n := by omega
      subst hjn
      have hvl := Lib.hid (show v = Lm.val l by rw [hv.out, List.take_of_length_le (by rw [hAA.1.1]; exact Nat.le_refl _)])
      have h60' := h60.out
      have ht : decide ((v : Int) ≤ 1152921504606846976) = true := by rw [decide_eq_true_iff]; rw [hvl.out]; omega
      have hvb : v ≤ 1152921504606846976 := by rw [hvl.out]; omega
      clear h60'
      go_wp2
      go_ret2
      exact ⟨by rw [hvl.out]; rfl, hb0⟩

set_option maxRecDepth 100000 in
set_option maxHeartbeats 2000000 in
theorem small_neg_out (w : World) (A : Option Addr) (n c : Nat) (l : List Nat) (h : Raw w A n c l) (hm : mayB true l = true) (h2 : n ≤ 2) (hv60 : 1152921504606846976 < Lm.val l) :
    Calls Tryz.prog 159 #[.agg #[.bool true, .slice A n c]] w (SmallPost w (0) false) := by
  have h2' : decide ((2 : Int) < (n : Int)) = false := by rw [decide_eq_false_iff_not]; omega
  have h60 := Lib.hid hv60
  clear hv60
  go_enter Tryz.func159, Tryz.ntmps159
  go_wp2_with fail
  have hb0 := ((Below.refl w.heap.size w).alloc (Nat.le_refl _) (.cells #[.bool true, .slice A n c] 37))
  have hxa := Box.new w (.bool true) (.slice A n c)
  have hAA := h.below hb0
  generalize w.alloc (.cells #[.bool true, .slice A n c] 37) = W at *
  refine (may_b W true A n c l hAA).mono ?_
  rintro e w1 ⟨rfl, hb1⟩
  have ya := hxa.below' hb1
  replace hAA := hAA.below hb1
  replace hb0 := hb0.trans (hb1.mono hb0.size)
  clear hxa hb1
  have x1 := ya.c0
  have x2 := ya.c1
  go_wp2
  go_loop [4, 19] (fun u i => ∃ (j v : Nat), j ≤ n ∧ i = .int .i64 (j : Int) ∧ u = .int .u64 (v : Int) ∧ Hid (v = Lm.val (l.take j))) (fun _ i => n - (intOf i).toNat)
  case atStart => exact ⟨0, 0, Nat.zero_le _, rfl, rfl, Lib.hid rfl⟩
  case round =>
    obtain ⟨j, v, hj, rfl, rfl, hv⟩ := hrel
    by_cases h0 : j < n
    · obtain ⟨b, o, rfl, hb, hcell⟩ := hAA.1.2.2.2 (by omega)
      have hg := hcell j h0
      obtain ⟨x, hx⟩ : ∃ x, x = Lm.lg l j := ⟨_, rfl⟩
      have hl0 : x ≤ 4294967295 := by rw [hx]; have := Lm.lg_lt hAA.1.2.2.1 j; omega
      rw [← hx] at hg
      have hX := Lib.hid hx
      have hstep := Lib.hid (show Lm.val (l.take (j + 1)) = v + 4294967296 ^ j * x by rw [Lm.val_take_succ, hv.out, hx])
      clear hcell hx
      have hj2 : j = 0 ∨ j = 1 := by omega
      rcases hj2 with rfl | rfl
      · have hv0 : v = 0 := hv.out
        subst hv0
        rw [Nat.add_zero] at hg
        go_wp2
        go_round
        case rel => exact ⟨1, x, by omega, by go_num, by rw [or_u64_0 x hl0], Lib.hid (by rw [hstep.out]; simp)⟩
        case measure => simp [intOf]; omega
      · have hvl : v ≤ 4294967295 := by
          rw [hv.out]
          have := Lm.val_lt (Lm.small_take hAA.1.2.2.1 1)
          rw [List.length_take, Nat.min_eq_left (by rw [hAA.1.1]; omega)] at this
          omega
        go_wp2
        rw [or_u64 v x hvl hl0]
        exact ⟨⟨2, _, by omega, by go_num, rfl, Lib.hid hstep.out.symm⟩, by simp [intOf]; omega⟩
    · have hjn : j = n := by omega
      subst hjn
      have hvl := Lib.hid (show v = Lm.val l by rw [hv.out, List.take_of_length_le (by rw [hAA.1.1]; exact Nat.le_refl _)])
      have h60' := h60.out
      have ht : decide ((v : Int) ≤ 1152921504606846976) = false := by rw [decide_eq_false_iff_not]; rw [hvl.out]; omega
      skip
      clear h60'
      go_wp2
      go_ret2
      exact ⟨rfl, hb0⟩

set_option maxRecDepth 100000 in
set_option maxHeartbeats 2000000 in
theorem small_pos_in (w : World) (A : Option Addr) (n c : Nat) (l : List Nat) (h : Raw w A n c l) (hm : mayB false l = true) (h2 : n ≤ 2) (hv60 : Lm.val l ≤ 1152921504606846975) :
    Calls Tryz.prog 159 #[.agg #[.bool false, .slice A n c]] w (SmallPost w ((Lm.val l : Int)) true) := by
  have h2' : decide ((2 : Int) < (n : Int)) = false := by rw [decide_eq_false_iff_not]; omega
  have h60 := Lib.hid hv60
  clear hv60
  go_enter Tryz.func159, Tryz.ntmps159
  go_wp2_with fail
  have hb0 := ((Below.refl w.heap.size w).alloc (Nat.le_refl _) (.cells #[.bool false, .slice A n c] 37))
  have hxa := Box.new w (.bool false) (.slice A n c)
  have hAA := h.below hb0
  generalize w.alloc (.cells #[.bool false, .slice A n c] 37) = W at *
  refine (may_b W false A n c l hAA).mono ?_
  rintro e w1 ⟨rfl, hb1⟩
  have ya := hxa.below' hb1
  replace hAA := hAA.below hb1
  replace hb0 := hb0.trans (hb1.mono hb0.size)
  clear hxa hb1
  have x1 := ya.c0
  have x2 := ya.c1
  go_wp2
  go_loop [4, 19] (fun u i => ∃ (j v : Nat), j ≤ n ∧ i = .int .i64 (j : Int) ∧ u = .int .u64 (v : Int) ∧ Hid (v = Lm.val (l.take j))) (fun _ i => n - (intOf i).toNat)
  case atStart => exact ⟨0, 0, Nat.zero_le _, rfl, rfl, Lib.hid rfl⟩
  case round =>
    obtain ⟨j, v, hj, rfl, rfl, hv⟩ := hrel
    by_cases h0 : j < n
    · obtain ⟨b, o, rfl, hb, hcell⟩ := hAA.1.2.2.2 (by omega)
      have hg := hcell j h0
      obtain ⟨x, hx⟩ : ∃ x, x = Lm.lg l j := ⟨_, rfl⟩
      have hl0 : x ≤ 4294967295 := by rw [hx]; have := Lm.lg_lt hAA.1.2.2.1 j; omega
      rw [← hx] at hg
      have hX := Lib.hid hx
      have hstep := Lib.hid (show Lm.val (l.take (j + 1)) = v + 4294967296 ^ j * x by rw [Lm.val_take_succ, hv.out, hx])
      clear hcell hx
      have hj2 : j = 0 ∨ j = 1 := by omega
      rcases hj2 with rfl | rfl
      · have hv0 : v = 0 := hv.out
        subst hv0
        rw [Nat.add_zero] at hg
        go_wp2
        go_round
        case rel => exact ⟨1, x, by omega, by go_num, by rw [or_u64_0 x hl0], Lib.hid (by rw [hstep.out]; simp)⟩
        case measure => simp [intOf]; omega
      · have hvl : v ≤ 4294967295 := by
          rw [hv.out]
          have := Lm.val_lt (Lm.small_take hAA.1.2.2.1 1)
          rw [List.length_take, Nat.min_eq_left (by rw [hAA.1.1]; omega)] at this
          omega
        go_wp2
        rw [or_u64 v x hvl hl0]
        exact ⟨⟨2, _, by omega, by go_num, rfl, Lib.hid hstep.out.symm⟩, by simp [intOf]; omega⟩
    · have hjn : j = n := by omega
      subst hjn
      have hvl := Lib.hid (show v = Lm.val l by rw [hv.out, List.take_of_length_le (by rw [hAA.1.1]; exact Nat.le_refl _)])
      have h60' := h60.out
      have ht : decide ((v : Int) ≤ 1152921504606846975) = true := by rw [decide_eq_true_iff]; rw [hvl.out]; omega
      have hvb : v ≤ 1152921504606846976 := by rw [hvl.out]; omega
      clear h60'
      go_wp2
      go_ret2
      exact ⟨by rw [hvl.out]; rfl, hb0⟩

set_option maxRecDepth 100000 in
set_option maxHeartbeats 2000000 in
theorem small_pos_out (w : World) (A : Option Addr) (n c : Nat) (l : List Nat) (h : Raw w A n c l) (hm : mayB false l = true) (h2 : n ≤ 2) (hv60 : 1152921504606846975 < Lm.val l) :
    Calls Tryz.prog 159 #[.agg #[.bool false, .slice A n c]] w (SmallPost w (0) false) := by
  have h2' : decide ((2 : Int) < (n : Int)) = false := by rw [decide_eq_false_iff_not]; omega
  have h60 := Lib.hid hv60
  clear hv60
  go_enter Tryz.func159, Tryz.ntmps159
  go_wp2_with fail
  have hb0 := ((Below.refl w.heap.size w).alloc (Nat.le_refl _) (.cells #[.bool false, .slice A n c] 37))
  have hxa := Box.new w (.bool false) (.slice A n c)
  have hAA := h.below hb0
  generalize w.alloc (.cells #[.bool false, .slice A n c] 37) = W at *
  refine (may_b W false A n c l hAA).mono ?_
  rintro e w1 ⟨rfl, hb1⟩
  have ya := hxa.below' hb1
  replace hAA := hAA.below hb1
  replace hb0 := hb0.trans (hb1.mono hb0.size)
  clear hxa hb1
  have x1 := ya.c0
  have x2 := ya.c1
  go_wp2
  go_loop [4, 19] (fun u i => ∃ (j v : Nat), j ≤ n ∧ i = .int .i64 (j : Int) ∧ u = .int .u64 (v : Int) ∧ Hid (v = Lm.val (l.take j))) (fun _ i => n - (intOf i).toNat)
  case atStart => exact ⟨0, 0, Nat.zero_le _, rfl, rfl, Lib.hid rfl⟩
  case round =>
    obtain ⟨j, v, hj, rfl, rfl, hv⟩ := hrel
    by_cases h0 : j < n
    · obtain ⟨b, o, rfl, hb, hcell⟩ := hAA.1.2.2.2 (by omega)
      have hg := hcell j h0
      obtain ⟨x, hx⟩ : ∃ x, x = Lm.lg l j := ⟨_, rfl⟩
      have hl0 : x ≤ 4294967295 := by rw [hx]; have := Lm.lg_lt hAA.1.2.2.1 j; omega
      rw [← hx] at hg
      have hX := Lib.hid hx
      have hstep := Lib.hid (show Lm.val (l.take (j + 1)) = v + 4294967296 ^ j * x by rw [Lm.val_take_succ, hv.out, hx])
      clear hcell hx
      have hj2 : j = 0 ∨ j = 1 := by omega
      rcases hj2 with rfl | rfl
      · have hv0 : v = 0 := hv.out
        subst hv0
        rw [Nat.add_zero] at hg
        go_wp2
        go_round
        case rel => exact ⟨1, x, by omega, by go_num, by rw [or_u64_0 x hl0], Lib.hid (by rw [hstep.out]; simp)⟩
        case measure => simp [intOf]; omega
      · have hvl : v ≤ 4294967295 := by
          rw [hv.out]
          have := Lm.val_lt (Lm.small_take hAA.1.2.2.1 1)
          rw [List.length_take, Nat.min_eq_left (by rw [hAA.1.1]; omega)] at this
          omega
        go_wp2
        rw [or_u64 v x hvl hl0]
        exact ⟨⟨2, _, by omega, by go_num, rfl, Lib.hid hstep.out.symm⟩, by simp [intOf]; omega⟩
    · have hjn : j = n := by omega
      subst hjn
      have hvl := Lib.hid (show v = Lm.val l by rw [hv.out, List.take_of_length_le (by rw [hAA.1.1]; exact Nat.le_refl _)])
      have h60' := h60.out
      have ht : decide ((v : Int) ≤ 1152921504606846975) = false := by rw [decide_eq_false_iff_not]; rw [hvl.out]; omega
      skip
      clear h60'
      go_wp2
      go_ret2
      exact ⟨rfl, hb0⟩

set_option maxRecDepth 100000 in
/-- num.Small, of a number that may be. -/
theorem small_yes (w : World) (g : Bool) (A : Option Addr) (n c : Nat) (l : List Nat) (h : Raw w A n c l) (hm : mayB g l = true) :
    Calls Tryz.prog 159 #[.agg #[.bool g, .slice A n c]] w (SmallPost w (if smallB (sgn g (Lm.val l)) then sgn g (Lm.val l) else 0) (smallB (sgn g (Lm.val l)))) := by
  have hcan := mayB_canon hm
  have hsm := h.1.2.2.1
  by_cases h2 : n ≤ 2
  · cases g with
    | true =>
      by_cases hv : Lm.val l ≤ 1152921504606846976
      · have e : smallB (sgn true (Lm.val l)) = true := by simp [smallB, sgn]; omega
        rw [e, if_pos rfl]
        exact small_neg_in w A n c l h hm h2 hv
      · have e : smallB (sgn true (Lm.val l)) = false := by simp [smallB, sgn]; omega
        rw [e]
        exact small_neg_out w A n c l h hm h2 (by omega)
    | false =>
      by_cases hv : Lm.val l ≤ 1152921504606846975
      · have e : smallB (sgn false (Lm.val l)) = true := by simp [smallB, sgn]; omega
        rw [e, if_pos rfl]
        exact small_pos_in w A n c l h hm h2 hv
      · have e : smallB (sgn false (Lm.val l)) = false := by simp [smallB, sgn]; omega
        rw [e]
        exact small_pos_out w A n c l h hm h2 (by omega)
  · have hbig : ¬ Lm.val l < 4294967296 ^ 2 := fun hlt => by
      have := (Lm.digits_length (Lm.val l) 2).2 hlt
      rw [Lm.digits_val hsm hcan, h.1.1] at this
      exact h2 this
    have e : smallB (sgn g (Lm.val l)) = false := by
      cases g <;> simp [smallB, sgn] <;> omega
    rw [e]
    exact small_no2 w g A n c l h hm (by omega)

end Go.Proofs.YtejmmjedognaaaaGreat

namespace Go.Proofs.YtejmmjedognaaaaGreat
open Go.RowKit

/-- The value '.agg #[.bool s, .slice A n c]' is the integer z. -/
def Nm (w : World) (s : Bool) (A : Option Addr) (n c : Nat) (z : Int) : Prop := Raw w A n c (Lm.digits z.natAbs) ∧ Hid (s = decide (z < 0))

section
variable {w w' : World} {s : Bool} {A : Option Addr} {n c : Nat} {z : Int}
set_option maxRecDepth 100000 in
theorem Nm.below (h : Nm w s A n c z) (hb : Below w.heap.size w w') : Nm w' s A n c z := ⟨h.1.below hb, h.2⟩
set_option maxRecDepth 100000 in
theorem Nm.of_own {base : Nat} (hs : Hid (s = decide (z < 0))) (ho : Own w base A n c (Lm.digits z.natAbs)) : Nm w s A n c z := ⟨⟨ho.lim, ho.cap.2⟩, hs⟩
set_option maxRecDepth 100000 in
theorem Nm.eqZ (h : Nm w s A n c z) : sgn s (Lm.val (Lm.digits z.natAbs)) = z := by
  rw [Lm.val_digits, h.2.out]
  unfold sgn
  by_cases hz : z < 0
  · simp [hz]; omega
  · simp [hz]; omega
set_option maxRecDepth 100000 in
theorem Nm.may (h : Nm w s A n c z) (ht : z.natAbs < Lm.top) : mayB s (Lm.digits z.natAbs) = true := by
  unfold mayB
  by_cases h0 : (Lm.digits z.natAbs).length = 0
  · rw [if_pos h0]
    have : z.natAbs = 0 := Lm.digits_eq_nil.1 (List.eq_nil_of_length_eq_zero h0)
    have hs := h.2.out
    have hz : z = 0 := by omega
    subst hz
    rw [hs]
    rfl
  · rw [if_neg h0]
    have h1 := (Lm.top_iff _).2 ht
    have h2 := Lm.canon_digits z.natAbs (by omega)
    simp [h1]
    exact h2
end
set_option maxRecDepth 100000 in
/-- Limbs that may be are an integer. -/
theorem nm_of_raw {w : World} {g : Bool} {A : Option Addr} {n c : Nat} {l : List Nat} (h : Raw w A n c l) (hm : mayB g l = true) : Nm w g A n c (sgn g (Lm.val l)) := by
  have hd := Lm.digits_val h.1.2.2.1 (mayB_canon hm)
  refine ⟨?_, ?_⟩
  · rw [natAbs_sgn, hd]; exact h
  · refine Lib.hid ?_
    cases g with
    | false => simp [sgn]
    | true =>
      have := val_pos_of_neg hm h.1.2.2.1
      simp [sgn]; omega
set_option maxRecDepth 100000 in
theorem top_of_may {g : Bool} {l : List Nat} (hs : Lm.Small l) (hm : mayB g l = true) : (sgn g (Lm.val l)).natAbs < Lm.top := by
  rw [natAbs_sgn]
  refine (Lm.top_iff _).1 ?_
  rw [Lm.digits_val hs (mayB_canon hm)]
  exact mayB_len hm

section
variable (w : World) (s s' : Bool) (A B : Option Addr) (n c m d : Nat) (z z' : Int) (h : Nm w s A n c z) (h' : Nm w s' B m d z') (ht : z.natAbs < Lm.top) (ht' : z'.natAbs < Lm.top)
include h h' ht ht'
end
section
variable (w : World) (s : Bool) (A : Option Addr) (n c : Nat) (z : Int) (h : Nm w s A n c z) (ht : z.natAbs < Lm.top)
include h ht
set_option maxRecDepth 100000 in
theorem small_z : Calls Tryz.prog 159 #[.agg #[.bool s, .slice A n c]] w (SmallPost w (if smallB z then z else 0) (smallB z)) := by
  have := small_yes w s A n c _ h.1 (h.may ht)
  rwa [h.eqZ] at this
set_option maxRecDepth 100000 in
theorem may_z : Calls Tryz.prog 160 #[.agg #[.bool s, .slice A n c]] w fun e w' => e = .returned (.bool true) ∧ Below w.heap.size w w' := by
  have := may_b w s A n c _ h.1
  rwa [h.may ht] at this
end

set_option maxRecDepth 100000 in
theorem same_z (w : World) (s s' : Bool) (A B : Option Addr) (n c m d : Nat) (z z' : Int) (h : Nm w s A n c z) (h' : Nm w s' B m d z') :
    Calls Tryz.prog 34 #[.agg #[.bool s, .slice A n c], .agg #[.bool s', .slice B m d]] w fun e w' => e = .returned (.bool (decide (z = z'))) ∧ Below w.heap.size w w' := by
  have := sameNum_any w s s' A B n c m d _ _ h.1.1 h.1.2 h'.1.1 h'.1.2
  have e : sameB s s' (Lm.digits z.natAbs) (Lm.digits z'.natAbs) = decide (z = z') := by
    unfold sameB
    rw [h.2.out, h'.2.out]
    by_cases hz : z = z'
    · subst hz; simp
    · rw [decide_eq_false hz]
      by_cases hs : (decide (z < 0) == decide (z' < 0)) = true
      · rw [hs, Bool.true_and, decide_eq_false_iff_not]
        intro hd
        have h1 := congrArg Lm.val hd
        rw [Lm.val_digits, Lm.val_digits] at h1
        simp at hs
        omega
      · simp at hs; simp [hs]
  rwa [e] at this
set_option maxRecDepth 100000 in
/-- Of two that are one. -/
theorem same_z' (w : World) (s s' : Bool) (A B : Option Addr) (n c m d : Nat) (z z' : Int) (h : Nm w s A n c z) (h' : Nm w s' B m d z') (e : z = z') :
    Calls Tryz.prog 34 #[.agg #[.bool s, .slice A n c], .agg #[.bool s', .slice B m d]] w fun e w' => e = .returned (.bool true) ∧ Below w.heap.size w w' := by
  have := same_z w s s' A B n c m d z z' h h'
  rwa [decide_eq_true e] at this

set_option maxRecDepth 100000 in
theorem Lm.top_ge : 340282366920938463463374607431768211456 < Lm.top := by decide
set_option maxRecDepth 100000 in
theorem clip_small {z : Int} (h : z.natAbs < Lm.top) : clip z = z := if_pos h
set_option maxRecDepth 100000 in
theorem fits_small {z : Int} (h : z.natAbs < Lm.top) : fits z = true := decide_eq_true h

end Go.Proofs.YtejmmjedognaaaaGreat

namespace Go.Proofs.YtejmmjedognaaaaGreat
open Go.RowKit

set_option maxRecDepth 100000 in
theorem lit_nm (w : World) : Nm (w.alloc (.cells #[.int .u32 0, .int .u32 0, .int .u32 65536] 128)) true (some ⟨w.heap.size, 0, none⟩) 3 3 ((-1099511627776 : Int) * 1099511627776) := by
  have hs : Lm.Small [0, 0, 65536] := by intro x hx; simp at hx; omega
  have hc : Lm.Canon [0, 0, 65536] := by intro _; decide
  have e : Lm.digits ((-1099511627776 : Int) * 1099511627776).natAbs = [0, 0, 65536] := by
    have := Lm.digits_val hs hc
    rw [← this]
    congr 1
  refine ⟨?_, Lib.hid rfl⟩
  rw [e]
  exact ⟨Lim.new w [0, 0, 65536] hs, by decide⟩

end Go.Proofs.YtejmmjedognaaaaGreat
