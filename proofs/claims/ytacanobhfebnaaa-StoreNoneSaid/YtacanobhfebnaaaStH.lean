/-
  PACKAGE store: smallest.
-/
import Derived.Test.YtacanobhfebnaaaStG
namespace Go.Proofs.Ytacanobhfebnaaa
open Go.RowKit
open St

set_option maxRecDepth 100000 in
/-- append, as one step of a region. -/
theorem wpApp {P : Program} {w w' : World} {ops : Array Oper} {rest : List Oper} {o : Oper} {a : Act} {Q : Exit → Act → World → Prop} (hgd : o.guard = none) (s x : Operand) (t : TypeId)
    (ho : o.op = .call { callee := .builtin .append, args := #[s, x], argTypes := #[t, t] }) (v y v' : Value) (hs : a.eval s = v) (hx : a.eval x = y)
    (hrun : (Builtin.append_ #[t, t] o.type #[v, y]).run P w = .ok v' w') (h : wpList P ops Q rest (a.put o.dst v') w') : wpList P ops Q (o :: rest) a w := by
  refine wpList_plain hgd fun K hK' => ?_
  unfold Oper.wp
  simp [execOp, ho, resolve, invoke, builtin, hs, hx, hrun, Result.andThen]
  exact hK' _ _ h

set_option maxRecDepth 100000 in
theorem und_slots : Try.prog.underlying 28 = some (.slice 46) := by kernel_rfl
set_option maxRecDepth 100000 in
theorem info_slot : (Try.prog.info? 46).map (fun i => (i.zero, i.size, i.bytes)) = some (some (.agg #[.int .i64 0, .int .i64 0, .string ⟨#[]⟩]), 3, 32) := by kernel_rfl
set_option maxRecDepth 100000 in
theorem info_slot' : ∃ i, Try.prog.info? 46 = some i ∧ i.zero = some (.agg #[.int .i64 0, .int .i64 0, .string ⟨#[]⟩]) ∧ i.size = 3 ∧ i.bytes = 32 := by
  have h := info_slot
  cases hi : Try.prog.info? 46 with
  | none => rw [hi] at h; simp at h
  | some i => rw [hi] at h; simp at h; exact ⟨i, rfl, h.1, h.2.1, h.2.2⟩
set_option maxRecDepth 100000 in
theorem scs_one (L : List Slt) : ∀ u ∈ scs L, u.oneCell' = true := by
  induction L with
  | nil => intro u h; simp [scs] at h
  | cons a L ih =>
    intro u h
    simp only [scs, List.mem_cons] at h
    rcases h with rfl | rfl | rfl | h
    · rfl
    · rfl
    · rfl
    · exact ih u h
set_option maxRecDepth 100000 in
/-- Slots are put behind a row. -/
theorem Row3.app {w : World} {A : Option Addr} {n c : Nat} {L : List Slt} (h : Row3 w A n c L) (hn : n ≤ 100000) (g0 k k0 : Nat) (M : List Slt) (hM : M.length = k) (hk2 : k ≤ 100000) (hc : ∀ j u, (scs M)[j]? = Option.some u → w.cell? ⟨g0, j, none⟩ = Option.some u) (ty : TypeId) :
    ∃ A' c' w', (Builtin.append_ #[28, 28] ty #[.slice A n c, .slice (Option.some ⟨g0, 0, none⟩) k k0]).run Try.prog w = .ok (.slice A' (n + k) c') w' ∧ Row3 w' A' (n + k) c' (L ++ M) ∧ w.grownBy w' (A.map (·.block)) ∧
      (∀ q, A'.map (·.block) = Option.some q → A.map (·.block) = Option.some q ∨ w.heap.size ≤ q) := by
  obtain ⟨i, hi, hz, hs, hb⟩ := info_slot'
  obtain ⟨v', w', hrun, ho, hg, _, hloc⟩ := run_append_own_at (P := Try.prog) w 0 28 ty 46 i (.agg #[.int .i64 0, .int .i64 0, .string ⟨#[]⟩]) 3 32 und_slots hi hz hs hb rfl (by decide) (.slice A n c) n (scs L) h.row ⟨g0, 0, none⟩ k k0 (scs M) (by rw [scs_len, hM]) (by
    intro j u hu
    have : (⟨g0, 0, none⟩ : Addr).add j = ⟨g0, j, none⟩ := by unfold Addr.add; split <;> simp_all
    rw [this]
    exact hc j u hu) (scs_one M) (by unfold maxLen; omega) (by omega) (by omega)
  have hform : ∃ A' c', v' = .slice A' (n + k) c' := by
    rcases ho.2 with ⟨rfl, h0⟩ | ⟨g, cap, cur, rfl, _⟩
    · exact ⟨none, 0, by rw [h0]⟩
    · exact ⟨_, _, rfl⟩
  obtain ⟨A', c', rfl⟩ := hform
  rw [own_of] at hg hloc
  rw [own_of] at hloc
  refine ⟨A', c', w', hrun, ⟨by rw [List.length_append, h.len, hM], by rw [scs_app]; exact ho⟩, hg, fun q hq => ?_⟩
  rcases hloc with e | e
  · rw [e] at hq; exact .inl hq
  · rw [e] at hq
    cases hq
    exact .inr (Nat.le_refl _)

/-- What lies in a store. -/
def kS (S : Nat) (A F : Option Addr) (k : Nat) : Prop := A.map (·.block) = some k ∨ kF S F k

/-- What a call leaves that makes a slot. -/
def SmN (w : World) (S : Nat) (L : List Slt) (A F : Option Addr) (e : Nat) (d : Nat → Nat) (b : Int) (w' : World) : Prop :=
  ∃ A' c', Sto w' S (L ++ [Slt.zero]) A' c' F 0 e d b ∧ Chg (kS S A F) w w' ∧ (∀ k, A'.map (·.block) = some k → A.map (·.block) = some k ∨ w.heap.size ≤ k)

set_option maxRecDepth 100000 in
set_option maxRecDepth 100000 in
set_option maxHeartbeats 2000000 in
theorem smallest_new {w : World} {S : Nat} {L : List Slt} {A F : Option Addr} {c e : Nat} {d : Nat → Nat} {b : Int} (h : Sto w S L A c F 0 e d b) (hn : L.length ≤ 90000) :
    Calls Try.prog 26 #[.pointer (some ⟨S, 0, none⟩)] w fun r w' => r = .returned (.int .i64 (L.length : Int)) ∧ SmN w S L A F e d b w' := by
  have hd : Chg (fun _ => False) w (w.alloc (.cells #[.int .i64 0, .int .i64 0, .string ⟨#[]⟩] 46)) := .below ((Below.refl _ w).alloc (Nat.le_refl _) _)
  have h1 := h.row.chg hd (fun _ _ h => h)
  have hf1 := h.fre.chg hd (fun h => h) (fun _ _ h => h)
  obtain ⟨A', c', w', hrun, ho, hg, hloc⟩ := h1.app (by omega) w.heap.size 1 1 [Slt.zero] rfl (by omega) (by
    intro j u hu
    rw [cell_of_row _ w.heap.size j _ _ (0, 0) (heap_alloc_new w _)]
    simpa [scs, Slt.zero] using hu) 28
  have hgc : Chg (fun k => A.map (·.block) = some k) (w.alloc (.cells #[.int .i64 0, .int .i64 0, .string ⟨#[]⟩] 46)) w' := Chg.grown hg (fun k hk => hk)
  have hf2 := hf1.chg hgc h.neA (fun k hk hk2 => h.neAF hk2 hk)
  have y0 := hf2.c0
  have y2 := hf2.fz 0
  have x0 := h.fre.c0
  have x1 := h.fre.c1
  have z0 := hf1.c0
  have hF : Fre (w'.setCell ⟨S, 0, none⟩ (.slice A' (L.length + 1) c')) S (.slice A' (L.length + 1) c') (.int .i64 b) F 0 e d := by
    refine ⟨?_, hf2.row.1, ?_⟩
    · rw [heap_setCell_same w' S 0 _ _ _ hf2.blk]
      simp
    · rcases hf2.row.2 with h0 | ⟨g, cap, cur, hv, hb, hg, rest⟩
      · exact .inl h0
      · refine .inr ⟨g, cap, cur, hv, hb, ?_, rest⟩
        cases hv
        rw [heap_setCell_other w' ⟨S, 0, none⟩ g _ (fun e => h.neF (congrArg some (show g = S from e)))]
        exact hg
  have hc3 : Chg (kS S A F) w (w'.setCell ⟨S, 0, none⟩ (.slice A' (L.length + 1) c')) :=
    ((hd.mono (K' := kS S A F) (fun _ _ h => h.elim)).trans (hgc.mono (K' := kS S A F) (fun k _ hk => .inl hk)) (fun _ _ h => h)).setCell (.inl (.inr (.inl rfl))) _
  have hA : A'.map (·.block) ≠ some S := by
    intro e
    rcases hloc S e with e | e
    · exact h.neA e
    · have := h.fre.lt
      simp at e
      omega
  have hr3 : Row3 (w'.setCell ⟨S, 0, none⟩ (.slice A' (L.length + 1) c')) A' (L.length + 1) c' (L ++ [Slt.zero]) :=
    ho.chg ((Chg.refl (fun k => k = S) w').setCell (p := ⟨S, 0, none⟩) (.inl rfl) _) (fun k hk e => hA (by rw [hk, e]))
  have HH : Hid (Sto (w'.setCell ⟨S, 0, none⟩ (.slice A' (L.length + 1) c')) S (L ++ [Slt.zero]) A' c' F 0 e d b) := Lib.hid (by
    have hl : (L ++ [Slt.zero]).length = L.length + 1 := by simp
    exact ⟨by rw [hl]; exact hF, by rw [hl]; exact hr3⟩)
  have HC := Lib.hid hc3
  have HL : Hid (∀ k, A'.map (·.block) = some k → A.map (·.block) = some k ∨ w.heap.size ≤ k) := Lib.hid (fun k hk => (hloc k hk).imp id (fun h => by simp at h; omega))
  have HR := Lib.hid hrun
  have HE := Lib.hid (show ((L.length + 1 : Nat) : Int) - 1 = (L.length : Int) by omega)
  have q0 : (w'.setCell ⟨S, 0, none⟩ (.slice A' (L.length + 1) c')).cell? ⟨S, 0, none⟩ = some (.slice A' (L.length + 1) c') := hF.c0
  clear hrun ho hg hloc hd h1 hf1 hf2 hgc hF hc3 hA hr3 h
  go_enter Try.func26, Try.ntmps26
  go_wp2_with (at_builtin; refine wpApp rfl _ _ _ rfl _ _ _ rfl rfl HR.out ?_)
  go_ret
  exact ⟨rfl, A', c', HH.out, HC.out, HL.out⟩

set_option maxRecDepth 100000 in
set_option maxRecDepth 100000 in
set_option maxHeartbeats 2000000 in
theorem smallest_old {w : World} {S : Nat} {L : List Slt} {A F : Option Addr} {c m e : Nat} {d : Nat → Nat} {b : Int} (h : Sto w S L A c F (m + 1) e d b) (hm : m ≤ 90000) (hh : Hp (m + 1) d) :
    Calls Try.prog 26 #[.pointer (some ⟨S, 0, none⟩)] w fun r w' => r = .returned (.int .i64 ((d 0 : Nat) : Int)) ∧ ∃ d', Sto w' S L A c F m e d' b ∧ Hp m d' ∧ Pm m (swp d 0 m) d' ∧ Chg (kS S A F) w w' := by
  have HP := Lib.hid (heapPop_any h.fre hm hh)
  have x1 := h.fre.c1
  have hrow := Lib.hid h.row
  have hA := Lib.hid (fun k => h.neAF (k := k))
  have hA2 := Lib.hid h.neA
  have qa : ∀ w : World, (Instr.typeAssert (.iface 3 (.int .i64 ((d 0 : Nat) : Int))) 20 3 false).run Try.prog w = .ok (.int .i64 ((d 0 : Nat) : Int)) w := fun _ => by kernel_rfl
  clear h hh
  go_enter Try.func26, Try.ntmps26
  go_wp2_with (go_at_call 31; (with_reducible refine HP.out.mono ?_); rintro r w1 ⟨rfl, d', k1, k2, k3, k4⟩; replace k1 := Lib.hid k1; replace k2 := Lib.hid k2; replace k3 := Lib.hid k3; replace k4 := Lib.hid k4)
  go_ret
  refine ⟨rfl, d', ⟨k1.out, hrow.out.chg k4.out (fun k hk hk2 => ?_)⟩, k2.out, k3.out, k4.out.mono (fun k _ hk => .inr hk)⟩
  rcases hk2 with e | e
  · exact hA2.out (by rw [hk, e])
  · exact hA.out k hk e
end Go.Proofs.Ytacanobhfebnaaa
