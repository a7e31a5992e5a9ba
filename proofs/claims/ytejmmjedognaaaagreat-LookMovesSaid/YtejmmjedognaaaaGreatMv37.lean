/-
  PACKAGE look: reached, as an iterator.
  ROWS OF INTS OF ONE'S OWN, whose every cell is an int.
-/
import Derived.Test.YtejmmjedognaaaaGreatMv36
namespace Go.Proofs.YtejmmjedognaaaaGreat
open Go.RowKit Go.Shelf
open St
attribute [local go_sem] Oper.semAt_some

def encO (p : OR) : Array Value := #[.int .u64 p.x, .agg #[.int .i64 p.k, .slice p.A p.n p.c]]
/-- Blocks that the iterator turns. -/
def MiR (o : Obj) : Prop := (∃ es c, o = .map es c) ∨ (∃ cs, o = .cells cs 30 (0, 0))
set_option maxRecDepth 100000 in
theorem AbM.belw {β : Type} {M : Obj → Prop} {B : Nat} {J : β → World → Prop} (h : AbM M B J) {s : β} {W W' : World} (hb : Below W.heap.size W W') (hs : J s W) : J s W' :=
  h s W W' none hs ⟨hb.os, hb.tape, hb.output, hb.size, fun k hk _ => hb.block k hk⟩ (fun r e => by cases e)
set_option maxRecDepth 100000 in
theorem own_pop {w : World} {B : Nat} {t : TypeId} {A : Option Addr} {n c : Nat} {xs : List Value} {v : Value} (h : w.ownsRow B t 1 (.slice A (n + 1) c) (n + 1) (xs ++ [v])) : w.ownsRow B t 1 (.slice A n c) n xs ∧ ∃ g, A = some ⟨g, 0, none⟩ ∧ B ≤ g ∧ g < w.heap.size ∧ n + 1 ≤ c ∧ c ≤ maxLen ∧ w.cell? ⟨g, n, none⟩ = some v := by
  have hl := h.1
  rw [List.length_append, List.length_singleton, Nat.mul_one] at hl
  have h0 := h
  rcases h.2 with ⟨_, h1⟩ | ⟨g, cap, cur, hv, hb, hg, hnc, hcm, hcs, htk⟩
  · omega
  · injection hv with e1 _ e3
    subst e1 e3
    refine ⟨⟨by omega, .inr ⟨g, _, cur, rfl, hb, hg, by omega, hcm, hcs, ?_⟩⟩, g, rfl, hb, (Array.getElem?_eq_some_iff.1 hg).1, hnc, hcm, ?_⟩
    · rw [Nat.mul_one] at htk ⊢
      have h3 : (xs ++ [v]).take n = xs := by rw [List.take_append_of_le_length (by omega), List.take_of_length_le (by omega)]
      rw [← h3, ← htk, List.take_take, Nat.min_eq_left (by omega)]
    · rw [World.ownsRow.cellAt h0 n (by omega), List.getElem?_append_right (by omega)]
      simp [show n - xs.length = 0 by omega]
set_option maxRecDepth 100000 in
/-- append, as one step inside a fence. -/
theorem wpAppIn {F : Fence} {nF : Nat} {P : Program} {w w' : World} {ops : Array Oper} {rest : List Oper} {o : Oper} {a : Act} {Q : Exit → Act → World → Prop} (hg : o.guard = none) (s x : Operand) (t : TypeId)
    (hop : o.op = .call { callee := .builtin .append, args := #[s, x], argTypes := #[t, t] }) (v y v' : Value) (hs : a.eval s = v) (hx : a.eval x = y)
    (hrun : (Builtin.append_ #[t, t] o.type #[v, y]).run P w = .ok v' w') (h : wpListIn F nF P ops Q rest (a.put o.dst v') w') : wpListIn F nF P ops Q (o :: rest) a w := by
  refine wpListIn_plain hg fun K' hK' => ?_
  unfold Oper.wpIn
  refine ⟨by simp [Oper.about, hop, resolve, Target.leads, Sem.run_pure], ?_⟩
  rw [Oper.semAt_plain F _ _ (by rw [hop]; intro c hc'; cases hc')]
  simp [execOp, hop, resolve, invoke, builtin, hs, hx, hrun, Result.andThen]
  exact hK' _ _ h
set_option maxRecDepth 100000 in
theorem zeroS (w : World) : (zeroValue 118).run Tryz.prog w = .ok (.agg #[]) w := by kernel_rfl
set_option maxRecDepth 100000 in
theorem und_mu : Tryz.prog.underlying 134 = some (.map 30 118) := by kernel_rfl

set_option maxRecDepth 100000 in
set_option maxRecDepth 100000 in
set_option maxHeartbeats 8000000 in
theorem reached1_in (n : Nat) (hn1 : 1 ≤ n) (l B1 B2 N0 B : Nat) (K : Nat → Obj → Prop) (hK : ∀ k o, K k o → N0 ≤ k → (∃ cs f, o = .cells cs 3 f) ∨ ∃ r, o = .loop r)
    (gs : List Frg) (mv : Value) (A0 : Option Addr) (m0 c0 : Nat) (roots : List Int) (hgs : ∀ f ∈ gs, f.ws.length ≤ 1000) (hgl : gs.length ≤ 8) (hm0 : m0 ≤ 1000) (J Jx : List OR → World → Prop) (hAb : AbM MiR B J)
    (hY : ∀ pre x W, J pre W → ORok gs (pre ++ [x]) → YieldAt Fence.wide (n - 1) Tryz.prog l (encO x) W fun e W' =>
      (e = .returned (.bool true) ∧ J (pre ++ [x]) W' ∧ (Kpk K W W' ∧ KU W W')) ∨ (e = .returned (.bool false) ∧ Jx (pre ++ [x]) W'))
    (W : World) (hx1 : Boxed W B1 65 mv) (hx2 : Boxed W B2 22 (.slice A0 m0 c0)) (hM : ∀ V, Kpk (fun k o => K k o ∨ W.heap.size ≤ k) W V → Mm V gs mv) (hz : Zs .u64 W A0 m0 c0 roots)
    (hN0 : N0 ≤ W.heap.size) (hB : B ≤ W.heap.size) (hk1 : ∀ o, ¬ K B1 o) (h0 : J [] W) :
    CallsIn Fence.wide n Tryz.prog 78 #[.func (.yield l) #[] #[], .pointer (some ⟨B2, 0, none⟩), .pointer (some ⟨B1, 0, none⟩)] W fun e W' => (∃ v, e = .returned v) ∧
      ((∃ xs, Rchd gs roots xs ∧ J xs W') ∨ (∃ pre, ORok gs pre ∧ Jx pre W')) := by
  have hmm := @run_makeMap Tryz.prog
  refine callsIn_of_wp Tryz.func78 rfl trivial ?_ rfl
  simp only [Tryz.ntmps78, List.size_toArray, List.length_cons, List.length_nil, Nat.reduceAdd, Nat.reduceSub, Array.replicate_succ, Array.replicate_zero, List.push_toArray, List.append_toArray, List.nil_append, List.cons_append]
  obtain ⟨V1, hV1⟩ : ∃ V1, V1 = W.alloc (.map #[] 0) := ⟨_, rfl⟩
  have hb1 : Below W.heap.size W V1 := by rw [hV1]; exact (Below.refl _ W).alloc (Nat.le_refl _) _
  have hs1 : V1.heap.size = W.heap.size + 1 := by rw [hV1]; simp
  have hMp1 : MpS V1 W.heap.size [] := ⟨.map [], by rw [hV1]; exact World.ownsMap_made W Tryz.prog 30 (unitElem (H := Unit)), fun x => ⟨fun h => absurd h (by simp [Maps.has]), fun h => by cases h⟩, rfl⟩
  have hCl := Lib.hid (clone64_any (hz.below hb1) hm0)
  have hwr : ∀ x ∈ roots, Wd x := fun x hx => wf_u (hz.wf x hx)
  have hc2 := (hx2.kept (W' := V1) (row := none) ⟨hb1.os, hb1.tape, hb1.output, hb1.size, fun k hk _ => hb1.block k hk⟩ (by simp)).cell
  rw [hV1] at hc2
  have hl0 := hz.len
  have hJ1 : J [] V1 := by rw [hV1]; exact hAb.alloc _ h0
  have hK1 : Kpk (fun k o => K k o ∨ W.heap.size ≤ k) W V1 := Kpk.below hb1
  gi_wp2_with ((try refine ⟨trivial, ?_⟩); gi_at_call 79; rw [← hV1]; refine (callsIn_wide.2 hCl.out).mono ?_; rintro e V2 ⟨A', c', rfl, hO2, hb2⟩)
  have hI : Hid (J [] V2 ∧ Wk gs roots [] roots ∧ Kpk (fun k o => K k o ∨ W.heap.size ≤ k) W V2 ∧ MpS V2 W.heap.size [] ∧ V2.ownsRow W.heap.size 30 1 (.slice A' roots.length c') roots.length (u64s roots)) := Lib.hid ⟨hAb.belw hb2 hJ1, Wk.start gs roots hwr, hK1.trans (Kpk.below hb2), hMp1.below hb2, by rw [hl0]; exact own_mono hO2 (by omega)⟩
  have hRl : Hid (roots.length ≤ 1000) := Lib.hid (by omega)
  rw [← hl0]
  clear hJ1 hK1 hO2 hb2 hCl hMp1 hb1 hs1 hV1 hc2 hwr hz hmm h0 hl0
  replace hM := Lib.hid hM
  replace hK := Lib.hid hK
  replace hAb := Lib.hid hAb
  replace hY := Lib.hid hY
  replace hx1 := Lib.hid hx1
  replace hx2 := Lib.hid hx2
  replace hk1 := Lib.hid hk1
  replace hgs := Lib.hid hgs
  gi_loopw [5] (fun v5 V => ∃ pre todo A c, v5 = .slice A todo.length c ∧ Hid (J pre V ∧ Wk gs roots pre todo ∧ Kpk (fun k o => K k o ∨ W.heap.size ≤ k) W V ∧ MpS V W.heap.size pre ∧ V.ownsRow W.heap.size 30 1 (.slice A todo.length c) todo.length (u64s todo)) ∧ Hid (todo.length ≤ 1000 + 1000 * pre.length)) (fun v5 V => (2000 * gs.length - msz V W.heap.size) * 1002 + slLen v5)
  case atStart => exact ⟨[], roots, A', c', rfl, hI, Lib.hid (by have := hRl.out; simp only [List.length_nil]; omega)⟩
  case round =>
    clear hI hRl
    obtain ⟨pre, todo, A, c, rfl, HI, HL⟩ := hrel
    rcases List.eq_nil_or_concat todo with ht | ⟨td, x, ht⟩
    · subst ht
      gi_wp2
      go_end0
      exact ⟨⟨_, rfl⟩, .inl ⟨pre, HI.out.2.1.done, HI.out.1⟩⟩
    · rw [List.concat_eq_append] at ht
      subst ht
      obtain ⟨hJ, hW, hKp, hMp, hO⟩ := HI.out
      have hN : (td ++ [x]).length = td.length + 1 := by simp
      have hu : u64s (td ++ [x]) = u64s td ++ [.int .u64 x] := by simp [u64s]
      rw [hN, hu] at hO
      rw [hN] at HL
      rw [hN]
      obtain ⟨hO1, g, rfl, hg1, hg2, hg3, hg4, hcx⟩ := own_pop hO
      obtain ⟨D, hown, hhas, hsz⟩ := hMp
      have htd := hown.tidy lawU6
      have hxw := (hW.td x (by simp)).1
      have hkey := Maps.keyOf_int_mk Tryz.underlying30 (a := x) (wf_u64' hxw)
      have hmsz := (show MpS wr W.heap.size pre from ⟨D, hown, hhas, hsz⟩).size
      generalize htn : td.length = tn at *
      replace htn := Lib.hid htn
      have hc4 : c ≤ 9223372036854775807 := hg4
      have e1 : (tn : Int) ≤ (c : Int) := by omega
      clear HI hu hN hO
      have hMp : MpS wr W.heap.size pre := ⟨D, hown, hhas, hsz⟩
      have AG : Hid (∀ V', Below wr.heap.size wr V' → (x ∈ pre.map (·.x) ∨ (objO gs x).isSome = false) → (∃ pre todo A c', Value.slice (some ⟨g, 0, none⟩) tn c = .slice A todo.length c' ∧ Hid (J pre V' ∧ Wk gs roots pre todo ∧ Kpk (fun k o => K k o ∨ W.heap.size ≤ k) W V' ∧ MpS V' W.heap.size pre ∧ V'.ownsRow W.heap.size 30 1 (.slice A todo.length c') todo.length (u64s todo)) ∧ Hid (todo.length ≤ 1000 + 1000 * pre.length)) ∧
          (2000 * gs.length - msz V' W.heap.size) * 1002 + slLen (.slice (some ⟨g, 0, none⟩) tn c) < (2000 * gs.length - msz wr W.heap.size) * 1002 + slLen (.slice (some ⟨g, 0, none⟩) (tn + 1) c)) := Lib.hid (fun V' hb hx => by
        refine ⟨⟨pre, td, some ⟨g, 0, none⟩, c, by rw [htn.out], Lib.hid ⟨hAb.out.belw hb hJ, hW.again hx, hKp.trans (Kpk.below hb), hMp.below hb, by rw [htn.out]; exact own_below hO1 hb⟩, Lib.hid (by have := HL.out; have := htn.out; omega)⟩, ?_⟩
        rw [(hMp.below hb).size, hmsz]
        simp only [slLen]
        omega)
      have hb3 : Below wr.heap.size wr (wr.alloc (.cells #[] 118)) := (Below.refl _ wr).alloc (Nat.le_refl _) _
      cases hh : Maps.has D (.int .u64 x) with
      | true =>
        have hin := Lib.hid ((hhas x).1 hh)
        clear hKp hMp hW hO1
        gi_wp2_with (gi_at_lookup; refine wpListIn_lookup_own_unit _ rfl _ _ 134 rfl 30 118 lawU6 und_mu (zeroS _) _ _ D rfl hown _ _ rfl hkey ?_; rw [hh])
        exact AG.out _ hb3 (.inl hin.out)
      | false =>
        have hnin : x ∉ pre.map (·.x) := fun e => by rw [(hhas x).2 e] at hh; cases hh
        obtain ⟨V3, hV3⟩ : ∃ V3, V3 = wr.alloc (.cells #[] 118) := ⟨_, rfl⟩
        rw [← hV3] at hb3
        have hKp3 := hKp.trans (Kpk.below (K := fun k o => K k o ∨ W.heap.size ≤ k) hb3)
        have hbx : V3.heap[B1]? = _ := hKp3.block B1 _ hx1.out (fun e => by
          rcases e with e | e
          · exact hk1.out _ e
          · have := Boxed.lt hx1.out; omega)
        have hq := (show Boxed V3 B1 _ _ from hbx).cell
        have HO := Lib.hid (objectAt_any (hM.out V3 hKp3) hgs.out x hxw)
        cases ho : objO gs x with
        | none =>
          rw [ho] at HO
          have hnn : Hid ((objO gs x).isSome = false) := Lib.hid (by rw [ho]; rfl)
          rw [hV3] at hq
          clear hKp hMp hW hO1 hKp3 hbx ho hnin
          gi_wp2_with (first
            | (gi_at_lookup; refine wpListIn_lookup_own_unit _ rfl _ _ 134 rfl 30 118 lawU6 und_mu (zeroS _) _ _ D rfl hown _ _ rfl hkey ?_; rw [hh])
            | ((try refine ⟨trivial, ?_⟩); gi_at_call 55; rw [← hV3]; refine (callsIn_wide.2 HO.out).mono ?_; rintro e V4 ⟨⟨-, rfl⟩ | ⟨k, ws, A2, n1, c1, hkk, -⟩, hb4⟩; rotate_left 1; (cases hkk)))
          have hb5 := (hb3.trans (hb4.mono hb3.size)).alloc (hb3.trans (hb4.mono hb3.size)).size (.cells #[.int .i64 0, .slice none 0 0] 93)
          exact AG.out _ hb5 (.inr hnn.out)
        | some p =>
          obtain ⟨k, ws⟩ := p
          rw [ho] at HO
          have hok := hW.ok
          have hpl := hok.len hgs.out
          rw [hV3] at hq
          have hMl : pre.length < maxLen := by unfold maxLen; omega
          replace hpl := Lib.hid hpl
          gi_wp2_with (first
            | (gi_at_lookup; refine wpListIn_lookup_own_unit _ rfl _ _ 134 rfl 30 118 lawU6 und_mu (zeroS _) _ _ D rfl hown _ _ rfl hkey ?_; rw [hh])
            | ((try refine ⟨trivial, ?_⟩); gi_at_call 55; rw [← hV3]; refine (callsIn_wide.2 HO.out).mono ?_; rintro e V4 ⟨⟨hkk, -⟩ | ⟨k', ws', A2, n1, c1, hkk, rfl, hz4⟩, hb4⟩; (cases hkk); (cases hkk); (have hb5 := (Below.refl _ V4).alloc (Nat.le_refl _) (.cells #[.int .i64 k, .slice A2 n1 c1] 93)); (have hb35 := hb3.trans ((hb4.trans (hb5.mono hb4.size)).mono hb3.size)); (obtain ⟨D5, hown5, hhas5, hsz5⟩ := hMp.below hb35); (have htd5 := hown5.tidy lawU6))
            | (gi_at_mapUpdate; refine wpListIn_mapUpdate_own _ rfl _ _ _ 134 rfl 30 118 lawU6 und_mu _ _ pre.length D5 rfl hown5 hMl _ _ _ rfl rfl hkey _ _ unitElem_mk ?_; intro V6 hown6 hgr6; (have hob6 : V6.heap[V4.heap.size]? = some (.cells #[.int .i64 k, .slice A2 n1 c1] 93 (0, 0)) := (hgr6.block _ (by simp) (by have h1 := hb4.size; have h2 := hb3.size; have h3 := hKp.size; intro e; injection e with e; omega)).trans (heap_alloc_new V4 _)); (have q0 : V6.cell? ⟨V4.heap.size, 0, none⟩ = some (.int .i64 k) := (cell_of_row V6 _ 0 _ _ (0, 0) hob6).trans rfl); (have q1 : V6.cell? ⟨V4.heap.size, 1, none⟩ = some (.slice A2 n1 c1) := (cell_of_row V6 _ 1 _ _ (0, 0) hob6).trans rfl); (have hJ6 : J pre V6 := hAb.out pre _ V6 (some W.heap.size) (hAb.out.belw hb35 hJ) hgr6 (fun r e => by cases e; obtain ⟨es, cc, hh9⟩ := (show MpS _ W.heap.size pre from ⟨D5, hown5, hhas5, hsz5⟩).obj; exact ⟨hB, _, hh9, .inl ⟨_, _, rfl⟩⟩)); (have hok6 : ORok gs (pre ++ [⟨x, k, A2, n1, c1, ws⟩]) := hok.snoc hnin hxw ho hz4.len.symm); (obtain ⟨fn, tmps, assign, body, hy, hR⟩ := hY.out pre ⟨x, k, A2, n1, c1, ws⟩ V6 hJ6 hok6); (simp only [encO] at hy)))
          have hkne : ∀ kk cs, W.heap.size ≤ kk → ¬ K kk (.cells cs 30 (0, 0)) := fun kk cs hkk e => by
            rcases hK.out kk _ e (by omega) with ⟨_, _, h9⟩ | ⟨_, h9⟩
            · injection h9 with _ h9; exact absurd h9 (by decide)
            · cases h9
          have hkob : ∀ kk cs, W.heap.size ≤ kk → ¬ K kk (.cells cs 93 (0, 0)) := fun kk cs hkk e => by
            rcases hK.out kk _ e (by omega) with ⟨_, _, h9⟩ | ⟨_, h9⟩
            · injection h9 with _ h9; exact absurd h9 (by decide)
            · cases h9
          have hkmp : ∀ es cc, ¬ K W.heap.size (.map es cc) := fun es cc e => by
            rcases hK.out _ _ e hN0 with ⟨_, _, h9⟩ | ⟨_, h9⟩ <;> cases h9
          have hmapo : ∀ r', some W.heap.size = some r' → ∃ o : Obj, (V4.alloc (.cells #[.int .i64 k, .slice A2 n1 c1] 93)).heap[r']? = some o ∧ o.isCells = false := fun r' e => by
            cases e
            obtain ⟨es, cc, hh9⟩ := (show MpS _ W.heap.size pre from ⟨D5, hown5, hhas5, hsz5⟩).obj
            exact ⟨_, hh9, rfl⟩
          have hE : W.heap.size ≤ V4.heap.size := by have h1 := hb4.size; have h2 := hb3.size; have h3 := hKp.size; omega
          have hK6 : Kpk (fun k o => K k o ∨ W.heap.size ≤ k) W V6 := (hKp.trans (Kpk.below hb35)).trans (Kpk.grown hgr6 (fun k o e _ => by cases e; exact .inr (Nat.le_refl _)))
          have hO6 := own_bk (own_below hO1 hb35) hgr6 hmapo
          have hz6 := (hz4.below hb5).kept hgr6 hmapo
          have hMp6 := MpS.put (V' := V6) (p := ⟨x, k, A2, n1, c1, ws⟩) hhas5 hsz5 htd5 hnin hown6
          have hwx : ∀ y ∈ ws, Wd y := fun y hy => wf_u (hz4.wf y hy)
          have hn1w := hz4.len
          have hnc1 := hz4.nc
          have hcm1 := hz4.cm
          have hwl := outO_len hgs.out (objO_outO ho).1
          have hk5 : k = 5 → 1 ≤ n1 := fun e => by
            subst e
            have hf := (objO_outO ho).2
            have hnn : ∀ j, 0 ≤ ws.getD j 0 := fun j => by
              by_cases hj : j < n1
              · exact (wf_u (hz4.wfAt hj)).1
              · rw [List.getD_eq_getElem?_getD, List.getElem?_eq_none (by rw [hn1w]; omega)]
                exact Int.le_refl 0
            have h3 := (sub_split (S := []) (ws := ws) (gs := gs) hf (hnn 1) (hnn 2)).1
            omega
          have hWk := hW.more (p := ⟨x, k, A2, n1, c1, ws⟩) hnin ho hn1w.symm hwx
          have hlt1 := hok6.len hgs.out
          rw [List.length_append, List.length_singleton] at hlt1
          refine hR.mono ?_
          rintro e V7 (⟨rfl, hJ7, hkp7, hku7⟩ | ⟨rfl, hJx⟩)
          · have hob7 := hkp7.block _ _ hob6 (hkob _ _ hE)
            have q2 : V7.cell? ⟨V4.heap.size, 0, none⟩ = some (.int .i64 k) := (cell_of_row V7 _ 0 _ _ (0, 0) hob7).trans rfl
            have q3 : V7.cell? ⟨V4.heap.size, 1, none⟩ = some (.slice A2 n1 c1) := (cell_of_row V7 _ 1 _ _ (0, 0) hob7).trans rfl
            have hK7 := hK6.trans (hkp7.mono (K' := fun k o => K k o ∨ W.heap.size ≤ k) (fun _ _ _ e => .inl e))
            have hO7 := own_kpk hO6 hkp7 (fun g cs hg => hkne g cs hg)
            have hz7 := hz6.ku hku7 hkp7.size
            have hMp7 := hMp6.kpk hkp7 hkmp
            have hLd := Lib.hid (leads_any (w := V7) k A2 n1 c1 ws hn1w.symm hk5 hnc1 hcm1)
            have hs7 := hK7.size
            have HZ := Lib.hid (And.intro hJ7 (And.intro hK7 (And.intro hO7 (And.intro hz7 (And.intro hMp7 (And.intro hWk hlt1))))))
            clear hJ7 hK7 hO7 hz7 hMp7 hWk hy hR hJ6 hok6 hob6 hob7 hK6 hO6 hz6 hMp6 hkp7 hku7 q0 q1 hown6 hgr6 hmapo hz4 hown5 hhas5 hsz5 htd5 hJ hW hKp hMp hO1 hown hhas hsz htd
            gi_wp2_with (first
              | ((try refine ⟨trivial, ?_⟩); gi_at_call 80; refine (callsIn_wide.2 hLd.out).mono ?_; rintro e V8 ⟨A8, n8, c8, rfl, hzz, hn8, hb8⟩; (have hz8 := hzz V8 (HZ.out.2.2.2.1.below hb8)); (have hO8 := own_below HZ.out.2.2.1 hb8); (have hs8 := hb8.size); (obtain ⟨A9, c9, V9, hrun9, hO9, hg9⟩ := u64_app hO8 hz8 (by omega) (by have := htn.out; have := HL.out; have := hpl.out; omega) 22))
              | (gi_at_builtin; refine wpAppIn rfl _ _ _ rfl _ _ _ rfl rfl hrun9 ?_))
            obtain ⟨hJ7, hK7, hO7, hz7, hMp7, hWk, hlt1⟩ := HZ.out
            have hl8 := hz8.len
            have hl9 : (td ++ ldsO k ws).length = tn + n8 := by rw [List.length_append, htn.out, hl8]
            have hrow : ∀ r', (Value.slice (some ⟨g, 0, none⟩) tn c).ownBlock = some r' → W.heap.size ≤ r' ∧ ∃ cs, V8.heap[r']? = some (.cells cs 30 (0, 0)) := fun r' e => by
              rcases hO8.2 with ⟨h0, _⟩ | ⟨g', cap, cur, hv, hb, hgg, _⟩
              · cases h0
              · injection hv with e1 _ _
                rw [e1] at e
                cases e
                exact ⟨hb, _, hgg⟩
            have hMp8 := hMp7.below hb8
            have hMp9 : MpS V9 W.heap.size (pre ++ [⟨x, k, A2, n1, c1, ws⟩]) := hMp8.kpk (K := fun _ o => ∃ cs, o = .cells cs 30 (0, 0)) (Kpk.grown hg9 (fun k o e ho => by
              obtain ⟨_, cs, h9⟩ := hrow k e
              rw [ho] at h9
              injection h9 with h9
              exact ⟨cs, h9⟩)) (fun es cc e => by
              obtain ⟨cs, h9⟩ := e
              cases h9)
            refine ⟨⟨pre ++ [⟨x, k, A2, n1, c1, ws⟩], td ++ ldsO k ws, A9, c9, by rw [hl9], Lib.hid ⟨?_, hWk, ?_, hMp9, by rw [hl9]; exact hO9⟩, Lib.hid ?_⟩, ?_⟩
            · exact hAb.out _ V8 V9 _ (hAb.out.belw hb8 hJ7) hg9 (fun r' e => by
                obtain ⟨h1, cs, h2⟩ := hrow r' e
                exact ⟨by omega, _, h2, .inr ⟨cs, rfl⟩⟩)
            · exact (hK7.trans (Kpk.below hb8)).trans (Kpk.grown hg9 (fun k o e _ => .inr (hrow k e).1))
            · have := HL.out
              have := htn.out
              rw [hl9, List.length_append, List.length_singleton]
              omega
            · rw [hMp9.size, hmsz, List.length_append, List.length_singleton]
              simp only [slLen]
              omega
          · gi_wp2
            refine bodyPost_ret (results_none rfl _ _ _) rfl ?_
            exact ⟨⟨_, rfl⟩, .inr ⟨_, hok6, hJx⟩⟩
end Go.Proofs.YtejmmjedognaaaaGreat

namespace Go.Proofs.YtejmmjedognaaaaGreat
open Go.RowKit Go.Shelf
open St

set_option maxRecDepth 100000 in
theorem und_ir : Tryz.prog.underlying 26 = some (.slice 3) := by kernel_rfl
set_option maxRecDepth 100000 in
theorem info_ir : (Tryz.prog.info? 3).map (fun i => (i.zero, i.size, i.bytes)) = some (some (.int .i64 0), 1, 8) := by kernel_rfl
def i64s (zs : List Int) : List Value := zs.map (.int .i64)
def AllI (cur : List Value) : Prop := ∀ v ∈ cur, ∃ y, v = .int .i64 y
set_option maxRecDepth 100000 in
theorem AllI.app {a b : List Value} (h : AllI a) (g : AllI b) : AllI (a ++ b) := fun v hv => (List.mem_append.1 hv).elim (h v) (g v)
set_option maxRecDepth 100000 in
theorem AllI.i64s (zs : List Int) : AllI (i64s zs) := fun v hv => by
  obtain ⟨z, _, rfl⟩ := List.mem_map.1 hv
  exact ⟨z, rfl⟩
set_option maxRecDepth 100000 in
theorem AllI.zero (n : Nat) : AllI (Builtin.zeroCells (Value.cells (.int .i64 0)) n).toList := fun v hv => by
  simp [Builtin.zeroCells, Value.cells] at hv
  obtain ⟨a, _, e⟩ := hv
  refine ⟨0, ?_⟩
  rw [← e, show a % 1 = 0 by omega]
  rfl
set_option maxRecDepth 100000 in
theorem AllI.sub {a b : List Value} (h : AllI b) (hs : ∀ v ∈ a, v ∈ b) : AllI a := fun v hv => h v (hs v hv)
structure RwA (w : World) (B : Nat) (A : Option Addr) (c : Nat) (zs : List Int) : Prop where
  row : w.ownsRow B 3 1 (.slice A zs.length c) zs.length (i64s zs)
  all : ∀ g, A.map (·.block) = some g → ∃ cur, w.heap[g]? = some (.cells cur 3 (0, 0)) ∧ AllI cur.toList
set_option maxRecDepth 100000 in
theorem RwA.nil (w : World) (B : Nat) : RwA w B none 0 [] := ⟨World.ownsRow_nil _ _ _ _, fun g e => by cases e⟩
set_option maxRecDepth 100000 in
theorem RwA.kpk {w w' : World} {B : Nat} {A : Option Addr} {c : Nat} {zs : List Int} {K : Nat → Obj → Prop} (h : RwA w B A c zs) (hc : Kpk K w w') (hk : ∀ g cs, B ≤ g → ¬ K g (.cells cs 3 (0, 0))) : RwA w' B A c zs := by
  refine ⟨own_kpk h.row hc hk, fun g e => ?_⟩
  obtain ⟨cur, h1, h2⟩ := h.all g e
  exact ⟨cur, hc.block g _ h1 (hk g cur (World.ownsRow.lt h.row g (by rw [own_of]; exact e)).1), h2⟩
set_option maxRecDepth 100000 in
theorem RwA.below {w w' : World} {B : Nat} {A : Option Addr} {c : Nat} {zs : List Int} (h : RwA w B A c zs) (hb : Below w.heap.size w w') : RwA w' B A c zs := h.kpk (K := fun _ _ => False) (Kpk.below hb) (fun _ _ _ h => h)
set_option maxRecDepth 100000 in
theorem cell_obj {w : World} {p : Addr} {v : Value} (h : w.cell? p = some v) : ∃ cs t f, w.heap[p.block]? = some (.cells cs t f) ∧ cs[p.off]? = some v := by
  unfold World.cell? at h
  cases hb : w.heap[p.block]? with
  | none => rw [hb] at h; simp at h
  | some o =>
    rw [hb] at h
    cases o with
    | cells cs t f =>
      refine ⟨cs, t, f, rfl, ?_⟩
      obtain ⟨b, o, s⟩ := p
      cases s with
      | none => simpa using h
      | some s => simp at h
    | _ => simp at h

set_option maxRecDepth 100000 in
theorem int_app {w : World} {B : Nat} {A : Option Addr} {c : Nat} {zs : List Int} (h : RwA w B A c zs) (hB : B ≤ w.heap.size) (hn : zs.length ≤ 100000) (g0 : Nat) (x : Int) (hx : w.cell? ⟨g0, 0, none⟩ = some (.int .i64 x)) (ty : TypeId) :
    ∃ A' c' w', (Builtin.append_ #[26, 26] ty #[.slice A zs.length c, .slice (some ⟨g0, 0, none⟩) 1 1]).run Tryz.prog w = .ok (.slice A' (zs.length + 1) c') w' ∧ RwA w' B A' c' (zs ++ [x]) ∧ w.grownBy w' (Value.slice A zs.length c).ownBlock ∧ KU w w' := by
  obtain ⟨i, hi, hz, hs, hb⟩ := info_parts info_ir
  have hnews : ∀ j u, [Value.int .i64 x][j]? = some u → w.cell? ((⟨g0, 0, none⟩ : Addr).add j) = some u := fun j u hu => by
    match j, hu with
    | 0, hu => simp at hu; rw [Lk.addN, Nat.add_zero, ← hu]; exact hx
    | j + 1, hu => simp at hu
  obtain ⟨v', w', hrun, ho', hg, _, hloc⟩ := run_append_own_at (P := Tryz.prog) w B 26 ty 3 i (.int .i64 0) 1 8 und_ir hi hz hs hb rfl (by decide) (.slice A zs.length c) zs.length (i64s zs) h.row ⟨g0, 0, none⟩ 1 1 [.int .i64 x] rfl hnews (by simp [Value.oneCell']) (by unfold maxLen; omega) (by omega) hB
  obtain ⟨A', c', rfl⟩ : ∃ A' c', v' = .slice A' (zs.length + 1) c' := by
    rcases ho'.2 with ⟨_, h0⟩ | ⟨g, cap, cur, rfl, _⟩
    · omega
    · exact ⟨_, _, rfl⟩
  have happ : i64s zs ++ [Value.int .i64 x] = i64s (zs ++ [x]) := by simp [i64s]
  rw [happ] at ho'
  have key : (∀ g, A'.map (·.block) = some g → ∃ cur, w'.heap[g]? = some (.cells cur 3 (0, 0)) ∧ AllI cur.toList) ∧ KU w w' := by
    have grown : ∀ (cells : Array Value) (e : w' = w.drew.alloc (.cells cells 3)) (hA : A' = some ⟨w.heap.size, 0, none⟩) (hall : AllI cells.toList), (∀ g, A'.map (·.block) = some g → ∃ cur, w'.heap[g]? = some (.cells cur 3 (0, 0)) ∧ AllI cur.toList) ∧ KU w w' := fun cells e hA hall => by
      subst e hA
      refine ⟨fun g e => ?_, KU.below (((Below.refl _ w).drew).alloc (Nat.le_refl _) _)⟩
      cases e
      exact ⟨cells, heap_alloc_new w.drew _, hall⟩
    rcases h.row.2 with ⟨h0, h1⟩ | ⟨g, cap, cur, hv, hbg, hgg, hnc, hcm, hcs, htk⟩
    · injection h0 with e1 e2 e3
      have hzs : zs = [] := List.eq_nil_of_length_eq_zero h1
      subst e1 e3 hzs
      have hr := run_append_nil (P := Tryz.prog) (w := w) 26 ty 3 i (.int .i64 0) und_ir hi hz ⟨g0, 0, none⟩ 1 1 [.int .i64 x] (by rw [hs]; rfl) hnews (by omega) (by omega) (by rw [hb]; omega)
      rw [List.length_nil, hr] at hrun
      injection hrun with e4 e5
      injection e4 with e6 _ _
      refine grown _ e5.symm e6.symm ?_
      rw [Array.toList_append]
      exact AllI.app (fun v hv => by simp at hv; exact ⟨x, hv⟩) (AllI.zero _)
    · injection hv with e1 _ e3
      subst e1 e3
      obtain ⟨cur', hg2, hall⟩ := h.all g rfl
      rw [hgg] at hg2
      injection hg2 with hg2
      injection hg2 with hg2 _ _
      subst hg2
      by_cases hroom : zs.length + 1 ≤ c
      · have hr := run_append_room (P := Tryz.prog) w 26 ty 3 i und_ir hi g zs.length c cur hgg ⟨g0, 0, none⟩ 1 1 [.int .i64 x] (by rw [hs]; rfl) hnews (by simp [Value.oneCell']) hroom (by rw [hs, hcs]; simp; omega)
        rw [hr] at hrun
        injection hrun with e4 e5
        injection e4 with e6 _ _
        subst e5
        refine ⟨fun g' e => ?_, fun p y hp => ?_⟩
        · rw [← e6] at e
          cases e
          refine ⟨_, setRow_heap w g cur _ _ _ hgg, fun v hv => ?_⟩
          simp only [List.mem_append] at hv
          rcases hv with (hv | hv) | hv
          · exact hall v (List.mem_of_mem_take hv)
          · exact ⟨x, by simpa using hv⟩
          · exact hall v (List.mem_of_mem_drop hv)
        · have hne : p.block ≠ g := fun e => by
            obtain ⟨cs, t, f, h1, h2⟩ := cell_obj hp
            rw [e, hgg] at h1
            injection h1 with h1
            injection h1 with h1 _ _
            subst h1
            obtain ⟨y', h3⟩ := hall _ (Array.mem_toList_iff.2 (Array.mem_of_getElem? h2))
            cases h3
          exact (World.cell?_of_block (w := w) (a := p) (setRow_other _ _ _ _ hne)).trans hp
      · have holds : ∀ j v, (i64s zs)[j]? = some v → w.cell? ((⟨g, 0, none⟩ : Addr).add j) = some v := fun j v hj => by
          have hjl : j < zs.length := by
            have := (List.getElem?_eq_some_iff.1 hj).1
            rwa [i64s, List.length_map] at this
          rw [Lk.addN, Nat.zero_add, World.ownsRow.cellAt h.row j (by omega)]
          exact hj
        have hr := run_append_grow (P := Tryz.prog) (w := w) 26 ty 3 i (.int .i64 0) und_ir hi hz ⟨g, 0, none⟩ zs.length c (i64s zs) (by rw [hs, i64s, List.length_map, Nat.mul_one]) holds ⟨g0, 0, none⟩ 1 1 [.int .i64 x] (by rw [hs]; rfl) hnews (by omega) (by omega) (growslice_fits (by omega) (by rw [hb]; omega))
        rw [hr] at hrun
        injection hrun with e4 e5
        injection e4 with e6 _ _
        refine grown _ e5.symm e6.symm ?_
        rw [Array.toList_append, Array.toList_append]
        exact AllI.app (AllI.app (AllI.i64s zs) (fun v hv => by simp at hv; exact ⟨x, hv⟩)) (AllI.zero _)
  refine ⟨A', c', w', hrun, ⟨?_, key.1⟩, hg, key.2⟩
  rw [List.length_append]
  exact ho'
end Go.Proofs.YtejmmjedognaaaaGreat
