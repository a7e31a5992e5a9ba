/-
  CONTRACTS OF slices.Clone, num.Neg, Small, Of.
-/
import Derived.Test.YtbpihjcghmmacaaNumC
namespace Go.Proofs.Ytbpihjcghmmacaa
open Go.RowKit

theorem wpList_append_run {P : Program} {w w' : World} {ops : Array Oper} {rest : List Oper} {o : Oper} {a : Act} {Q : Exit → Act → World → Prop} (hgd : o.guard = none) (s x : Operand) (t : TypeId)
    (ho : o.op = .call { callee := .builtin .append, args := #[s, x], argTypes := #[t, t] }) (v y v' : Value) (hs : a.eval s = v) (hx : a.eval x = y)
    (hrun : (Builtin.append_ #[t, t] o.type #[v, y]).run P w = .ok v' w') (h : wpList P ops Q rest (a.put o.dst v') w') : wpList P ops Q (o :: rest) a w := by
  refine wpList_plain hgd fun K hK' => ?_
  unfold Oper.wp
  simp [execOp, ho, resolve, invoke, builtin, hs, hx, hrun, Result.andThen]
  exact hK' _ _ h

/-- append(row, limbs...), the limbs nil, empty or not. -/
theorem append_lim (w : World) (base : Nat) (A0 : Option Addr) (n0 c0 : Nat) (l0 : List Nat) (hown : Own w base A0 n0 c0 l0) (A : Option Addr) (n c : Nat) (l : List Nat) (h : Lim w A n c l) (hn : n0 + n ≤ 100000) (hbase : base ≤ w.heap.size) (ty : TypeId) :
    ∃ A' c' w', (Builtin.append_ #[22, 22] ty #[.slice A0 n0 c0, .slice A n c]).run Try.prog w = .ok (.slice A' (n0 + n) c') w' ∧ Own w' base A' (n0 + n) c' (l0 ++ l) ∧ Below base w w' := by
  obtain ⟨i, hi, hz, hs, hb⟩ := info_limb'
  cases A with
  | none =>
    have h0 : n = 0 := by
      rcases Nat.eq_zero_or_pos n with h0 | h0
      · exact h0
      · obtain ⟨b, o, e, _⟩ := h.2.2.2 h0
        cases e
    subst h0
    have hl : l = [] := List.eq_nil_of_length_eq_zero h.1
    subst hl
    refine ⟨A0, c0, w, ?_, by simpa using hown, Below.refl _ _⟩
    rcases hown.2.2.2 with ⟨hv, h0⟩ | ⟨g, cap, cur, hv, _, _, hnc, _⟩
    · injection hv with hA _ hc
      subst hA hc h0
      simp [Builtin.append_, run_underlying und_limbs, sizeOf, typeInfo, hi, Builtin.lenOf, Builtin.firstCells]
    · injection hv with hA _ hc
      subst hA hc
      simp [Builtin.append_, run_underlying und_limbs, sizeOf, typeInfo, hi, Builtin.lenOf, Builtin.firstCells, hnc, storeCells]
  | some ad =>
    have hcells : ∀ j u, (limbVs l)[j]? = some u → w.cell? (ad.add j) = some u := by
      intro j u hu
      have hj : j < l.length := by
        rcases Nat.lt_or_ge j l.length with hj | hj
        · exact hj
        · rw [List.getElem?_eq_none (by rw [limbVs_len]; exact hj)] at hu; cases hu
      obtain ⟨b, o, e, _, hc⟩ := h.2.2.2 (by have := h.1; omega)
      injection e with e
      subst e
      rw [limbVs_get hj] at hu
      injection hu with hu
      subst hu
      have hadd : (⟨b, o, none⟩ : Addr).add j = ⟨b, o + j, none⟩ := by unfold Addr.add; split <;> simp_all
      rw [hadd]
      exact hc j (by have := h.1; omega)
    have h1 : ∀ u ∈ limbVs l, u.oneCell' = true := by
      intro u hu
      simp only [limbVs, List.mem_map] at hu
      obtain ⟨x, _, rfl⟩ := hu
      rfl
    obtain ⟨v', w', hrun, ho, hg, _⟩ := run_append_own (P := Try.prog) w base 22 ty 50 i (.int .u32 0) 1 4 und_limbs hi hz hs hb rfl (by decide) (.slice A0 n0 c0) n0 (limbVs l0) hown.2.2 ad n c (limbVs l) (by rw [limbVs_len, h.1]; omega) hcells h1 (by unfold maxLen; omega) (by omega) hbase
    have hlen : l0.length = n0 := hown.2.1
    have hform : ∃ A' c', v' = .slice A' (n0 + n) c' := by
      rcases ho.2 with ⟨rfl, h0⟩ | ⟨g, cap, cur, rfl, _⟩
      · exact ⟨none, 0, by rw [h0]⟩
      · exact ⟨_, _, rfl⟩
    obtain ⟨A', c', rfl⟩ := hform
    have happ : limbVs l0 ++ limbVs l = limbVs (l0 ++ l) := by simp [limbVs]
    rw [happ] at ho
    refine ⟨A', c', w', hrun, ⟨Lm.small_append.2 ⟨hown.1, h.2.2.1⟩, by rw [List.length_append, hlen, h.1], ho⟩, ?_⟩
    refine (Below.refl base w).grown hg hbase (fun k hk => ?_)
    exact (World.ownsRow.lt hown.2.2 k hk).1

/-- What a call leaves that makes a row of given limbs. -/
def CopyPost (w : World) (n : Nat) (l : List Nat) (e : Ending) (w' : World) : Prop :=
  ∃ A c, e = .returned (.slice A n c) ∧ Own w' w.heap.size A n c l ∧ Below w.heap.size w w'

set_option maxHeartbeats 1000000 in
theorem clone_any (w : World) (A : Option Addr) (n c : Nat) (l : List Nat) (h : Raw w A n c l) (hn : n ≤ 1000) :
    Calls Try.prog 53 #[.slice A n c] w (CopyPost w n l) := by
  have hnil := fun w => Lib.run_eql_slice_nil (P := Try.prog) w 22 50 A n c 0 0 und_limbs
  cases A with
  | none =>
    have h0 : n = 0 := by
      rcases Nat.eq_zero_or_pos n with h0 | h0
      · exact h0
      · obtain ⟨b, o, e, _⟩ := h.1.2.2.2 h0
        cases e
    subst h0
    have hl : l = [] := List.eq_nil_of_length_eq_zero h.1.1
    subst hl
    go_enter Try.func53, Try.ntmps53
    go_wp2
    go_ret
    exact ⟨none, 0, rfl, Own.nil _ _, Below.refl _ _⟩
  | some ad =>
    have hown0 : Own (w.alloc (.cells #[] 50)) w.heap.size (some ⟨w.heap.size, 0, none⟩) 0 0 [] := Own.new w w.heap.size [] Lm.small_nil (Nat.le_refl _) (Nat.zero_le _)
    obtain ⟨A', c', w1, hrun, hO, hB⟩ := append_lim (w.alloc (.cells #[] 50)) w.heap.size _ 0 0 [] hown0 (some ad) n c l (h.1.alloc _) (by omega) (by simp) 22
    rw [Nat.zero_add, List.nil_append] at hO
    rw [Nat.zero_add] at hrun
    have hR := Lib.hid hrun
    clear hrun
    go_enter Try.func53, Try.ntmps53
    go_wp2_with (at_builtin; refine wpList_append_run rfl _ _ _ rfl _ _ _ rfl rfl hR.out ?_)
    go_ret
    exact ⟨A', c', rfl, hO, ((Below.refl _ _).alloc (Nat.le_refl _) _).trans hB⟩

/-- num.Neg. -/
def OnePost (w : World) (z : Int) (e : Ending) (w' : World) : Prop := ∃ V, e = .returned V ∧ NumV w' w.heap.size V z ∧ Below w.heap.size w w'

end Go.Proofs.Ytbpihjcghmmacaa
