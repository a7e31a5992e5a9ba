/-
  PACKAGE look: reachedHandles.
  PACKAGE look: denotes.
  PACKAGE look: handled.
-/
import Derived.Test.YtejmmjedognaaaaGreatMv37
import Derived.Test.YtejmmjedognaaaaGreatMv27
import Derived.Test.YtejmmjedognaaaaGreatMv29
namespace Go.Proofs.YtejmmjedognaaaaGreat
open Go.RowKit Go.Shelf
open St
attribute [local go_sem] Oper.semAt_some

set_option maxRecDepth 100000 in
theorem reached_seq (n : Nat) (hn1 : 1 ≤ n) (B1 B2 N0 : Nat) (K : Nat → Obj → Prop) (hK : ∀ k o, K k o → N0 ≤ k → (∃ cs f, o = .cells cs 3 f) ∨ ∃ r, o = .loop r)
    (gs : List Frg) (mv : Value) (A0 : Option Addr) (m0 c0 : Nat) (roots : List Int) (hgs : ∀ f ∈ gs, f.ws.length ≤ 1000) (hgl : gs.length ≤ 8) (hm0 : m0 ≤ 1000)
    (w : World) (hx1 : Boxed w B1 65 mv) (hx2 : Boxed w B2 22 (.slice A0 m0 c0)) (hM : ∀ V, Kpk (fun k o => K k o ∨ w.heap.size ≤ k) w V → Mm V gs mv) (hz : Zs .u64 w A0 m0 c0 roots)
    (hN0 : N0 ≤ w.heap.size) (hk1 : ∀ o, ¬ K B1 o) :
    SeqM Fence.wide n Tryz.prog 78 #[.pointer (some ⟨B2, 0, none⟩), .pointer (some ⟨B1, 0, none⟩)] encO MiR (fun W W' => Kpk K W W' ∧ KU W W') (ORok gs) (Rchd gs roots) (ORok gs) w := by
  intro l J Jx W hW hJ hJx hY h0
  exact reached1_in n hn1 l B1 B2 N0 W.heap.size K hK gs mv A0 m0 c0 roots hgs hgl hm0 J Jx hJ hY W ((hW.block _ (Boxed.lt hx1)).trans hx1) ((hW.block _ (Boxed.lt hx2)).trans hx2)
    (fun V hV => hM V ((Kpk.below hW).trans (hV.mono (fun k o _ e => by
      rcases e with e | e
      · exact .inl e
      · exact .inr (Nat.le_trans hW.size e)))))
    (hz.below hW) (Nat.le_trans hN0 hW.size) (Nat.le_refl _) hk1 h0

/-- What a body writes: one variable, rows of ints. -/
def BdK (S : Nat) (k : Nat) (o : Obj) : Prop := k = S ∨ (S + 3 ≤ k ∧ ((∃ cs f, o = .cells cs 3 f) ∨ ∃ r, o = .loop r))
set_option maxRecDepth 100000 in
theorem bdK_hK (S : Nat) : ∀ k o, BdK S k o → S + 3 ≤ k → (∃ cs f, o = .cells cs 3 f) ∨ ∃ r, o = .loop r := fun k o h hk => by
  rcases h with h | h
  · omega
  · exact h.2
set_option maxRecDepth 100000 in
theorem bkR_cells {t : TypeId} {v : Array Value} {f : Nat × Nat} (h : Bk MiR (.cells v t f)) : t = 30 := by
  rcases h with ⟨r, e⟩ | ⟨d, e⟩ | ⟨es, c, e⟩ | ⟨cs, e⟩
  · cases e
  · cases e
  · cases e
  · injection e
set_option maxRecDepth 100000 in
theorem boxed_bk {W W' : World} {S B : Nat} {t : TypeId} {v : Value} {row : Option Nat} (ht : t ≠ 30) (h : Boxed W S t v) (hg : W.grownBy W' row) (hr : ∀ r, row = some r → B ≤ r ∧ ∃ o : Obj, W.heap[r]? = some o ∧ Bk MiR o) : Boxed W' S t v :=
  h.kept hg (fun e => by
    obtain ⟨_, o, ho, hb⟩ := hr _ e.symm
    rw [show W.heap[S]? = _ from h] at ho
    cases ho
    exact ht (bkR_cells hb))
set_option maxRecDepth 100000 in
theorem RwA.bk {W W' : World} {B B' : Nat} {A : Option Addr} {c : Nat} {zs : List Int} {row : Option Nat} (h : RwA W B A c zs) (hg : W.grownBy W' row) (hr : ∀ r, row = some r → B' ≤ r ∧ ∃ o : Obj, W.heap[r]? = some o ∧ Bk MiR o) : RwA W' B A c zs :=
  h.kpk (K := fun k o => row = some k ∧ Bk MiR o) (Kpk.grown hg (fun k o e ho => by
    obtain ⟨_, o', ho', hb⟩ := hr k e
    rw [ho] at ho'
    cases ho'
    exact ⟨e, hb⟩)) (fun g cs _ e => absurd (bkR_cells e.2) (by decide))
set_option maxRecDepth 100000 in
/-- append, as one step of a region that draws, inside a fence. -/
theorem stepIn_apnd {F : Fence} {nF : Nat} {P : Program} {ops : Array Oper} {o : Oper} {a : Act} {w w' : World} {K : Act → World → Prop} {Q : Exit → Act → World → Prop} {E : Prop}
    (hg : o.guard = none) (s x : Operand) (t : TypeId) (hop : o.op = Op.call { callee := Callee.builtin Builtin.append, args := #[s, x], argTypes := #[t, t] })
    (v y v' : Value) (hs : a.eval s = v) (hx : a.eval x = y) (hrun : (Builtin.append_ #[t, t] o.type #[v, y]).run P w = .ok v' w')
    (hK : K (a.put o.dst v') w') : if Region.wanted o (yielded ops a.tmps) = true then Oper.wpIn F nF P o a w K Q else E := by
  have hw : Region.wanted o (yielded ops a.tmps) = true := by simp [Region.wanted, hg]
  rw [if_pos hw]
  unfold Oper.wpIn
  refine ⟨by simp [Oper.about, hop, resolve, Target.leads, Sem.run_pure], ?_⟩
  rw [Oper.semAt_plain F _ _ (by rw [hop]; intro c hc'; cases hc')]
  simp [execOp, hop, resolve, invoke, builtin, hs, hx, hrun, Result.andThen]
  exact hK
/-- The addresses of what is a HeadRefc. -/
def hdO (l : List OR) : List Int := (l.filter (fun p => decide (p.k = 4))).map (fun p => ldZ p.x)
set_option maxRecDepth 100000 in
theorem hdO_snoc (l : List OR) (p : OR) : hdO (l ++ [p]) = if p.k = 4 then hdO l ++ [ldZ p.x] else hdO l := by
  unfold hdO
  rw [List.filter_append]
  by_cases h : p.k = 4
  · rw [if_pos h]; simp [h]
  · rw [if_neg h]; simp [h]
set_option maxRecDepth 100000 in
theorem hdO_len (l : List OR) : (hdO l).length ≤ l.length := by
  unfold hdO
  rw [List.length_map]
  exact List.length_filter_le _ _
def RhP (w : World) (gs : List Frg) (roots : List Int) (e : Ending) (w' : World) : Prop :=
  ∃ A c l, e = .returned (.slice A (hdO l).length c) ∧ Rchd gs roots l ∧ RwA w' w.heap.size A c (hdO l) ∧ Below w.heap.size w w'

set_option maxRecDepth 100000 in
set_option maxRecDepth 100000 in
set_option maxHeartbeats 8000000 in
theorem rh_any {w : World} {gs : List Frg} {mv : Value} (hM : Mm w gs mv) (hgs : ∀ f ∈ gs, f.ws.length ≤ 1000) (hgl : gs.length ≤ 8) {A : Option Addr} {m c : Nat} {roots : List Int} (hz : Zs .u64 w A m c roots) (hm : m ≤ 1000) :
    Calls Tryz.prog 44 #[mv, .slice A m c] w (RhP w gs roots) := by
  obtain ⟨T, v, hmv⟩ := hM.iface
  subst hmv
  refine (callsIn_wide (n := 3)).1 ?_
  refine callsIn_of_wp_marks Tryz.func44 rfl trivial ?_ rfl
  simp only [Tryz.ntmps44, List.size_toArray, List.length_cons, List.length_nil, Nat.reduceAdd, Nat.reduceSub, Array.replicate_succ, Array.replicate_zero, List.push_toArray, List.append_toArray, List.nil_append, List.cons_append]
  gi_wp2_with ((try refine ⟨trivial, ?_⟩); gi_at_call 46; refine (callsIn_wide.2 (reached_any T v A m c)).mono ?_; rintro e w' ⟨rfl, rfl⟩)
  obtain ⟨W0, hW0⟩ : ∃ W0, W0 = ((w.alloc (.cells #[.slice none 0 0] 26)).alloc (.cells #[.iface T v] 65)).alloc (.cells #[.slice A m c] 22) := ⟨_, rfl⟩
  have hB0 : Below w.heap.size w W0 := by
    rw [hW0]
    exact (((Below.refl _ w).alloc (Nat.le_refl _) _).alloc (by simp) _).alloc (by simp; omega) _
  have hs0 : W0.heap.size = w.heap.size + 3 := by rw [hW0]; simp
  have k1 : Boxed W0 w.heap.size 26 (.slice none 0 0) := by
    unfold Boxed
    rw [hW0, Below.heap_alloc _ _ _ (by simp; omega), Below.heap_alloc _ _ _ (by simp)]
    exact heap_alloc_new w _
  have k2 : Boxed W0 (w.heap.size + 1) 65 (.iface T v) := by
    unfold Boxed
    rw [hW0, Below.heap_alloc _ _ _ (by simp)]
    have := heap_alloc_new (w.alloc (.cells #[.slice none 0 0] 26)) (.cells #[.iface T v] 65)
    simpa using this
  have k3 : Boxed W0 (w.heap.size + 2) 22 (.slice A m c) := by
    unfold Boxed
    rw [hW0]
    have := heap_alloc_new ((w.alloc (.cells #[.slice none 0 0] 26)).alloc (.cells #[.iface T v] 65)) (.cells #[.slice A m c] 22)
    simpa using this
  have hKB : ∀ V, Kpk (fun k o => BdK w.heap.size k o ∨ W0.heap.size ≤ k) W0 V → Below w.heap.size W0 V := fun V hV => hV.toBelow (by omega) (fun k o hk e => by
    rcases e with (e | e) | e
    · omega
    · omega
    · omega)
  rw [show w.heap.size + 1 + 1 = w.heap.size + 2 by omega]
  rw [← hW0]
  have hseq := reached_seq 2 (by omega) (w.heap.size + 1) (w.heap.size + 2) (w.heap.size + 3) (BdK w.heap.size) (bdK_hK _) gs (.iface T v) A m c roots hgs hgl hm W0 k2 k3 (fun V hV => hM.below (hB0.trans (hKB V hV))) (hz.below hB0) (by omega) (fun o e => by
    rcases e with e | e
    · omega
    · omega)
  clear hW0
  refine range_m rfl (by omega) (gf := 78) (lb := #[.pointer (some ⟨w.heap.size + 2, 0, none⟩), .pointer (some ⟨w.heap.size + 1, 0, none⟩)]) rfl trivial (enters_of Tryz.func78 (by kernel_rfl) rfl)
    hseq (fun r h => by rcases h with ⟨_, _, e⟩ | ⟨_, e⟩ <;> cases e) (fun d h => by rcases h with ⟨_, _, e⟩ | ⟨_, e⟩ <;> cases e) (fun h k => ⟨h.1.trans k.1, h.2.trans k.2⟩)
    (fun V l r' o' hl hr => ⟨Kpk.grown (grownBy_putObj' V l o') (fun k o e ho => by
      cases e
      rw [hr] at ho
      cases ho
      exact .inr ⟨by omega, .inr ⟨_, rfl⟩⟩), KU.grown (grownBy_putObj' V l o') (fun k p x e hp he => by
      cases e
      obtain ⟨cs, t, f, h1, _⟩ := cell_obj hp
      rw [he, hr] at h1
      cases h1)⟩)
    (Below.refl _ _) (fun _ => rfl)
    (fun pre W => (∃ A c, Boxed W w.heap.size 26 (.slice A (hdO pre).length c) ∧ RwA W (w.heap.size + 3) A c (hdO pre)) ∧ (w.heap.size + 3 ≤ W.heap.size ∧ Below w.heap.size w W))
    (fun _ _ _ => False)
    (AbM.and (fun pre V V' row hs hg hr => by
      obtain ⟨A, c, h1, h2⟩ := hs
      exact ⟨A, c, boxed_bk (by decide) h1 hg hr, h2.bk hg hr⟩) (AbM.and (fun pre V V' row hs hg hr => Nat.le_trans hs hg.size) (below_grown (by omega) (Nat.le_refl _))))
    (fun c s V V' row hs hg hr => hs)
    ⟨⟨none, 0, k1, RwA.nil _ _⟩, by omega, hB0⟩
    (fun pre x a' V => ∃ B, w.heap.size + 3 ≤ B ∧ V.heap[B]? = some (.cells #[.int .i64 x.k, .slice x.A x.n x.c] 93 (0, 0)) ∧ a' = { tmps := #[.iface T v, .slice A m c, undef, undef, .slice none 0 0, .pointer (some ⟨w.heap.size, 0, none⟩), .int .u64 x.x, .pointer (some ⟨B, 0, none⟩), .iface T v, .slice A m c, .func (.func 78) #[] #[.pointer (some ⟨w.heap.size + 2, 0, none⟩), .pointer (some ⟨w.heap.size + 1, 0, none⟩)], .int .u64 x.x, .agg #[.int .i64 x.k, .slice x.A x.n x.c], undef, undef, undef, undef, undef, undef, undef, undef, undef], defers := [] })
    (fun pre x a' s V V' row hs hg hr => by
      obtain ⟨B, h1, h2, h3⟩ := hs
      exact ⟨B, h1, (hg.block _ (Array.getElem?_eq_some_iff.1 h2).1 (fun e => by
        obtain ⟨_, o, ho, hb⟩ := hr _ e.symm
        rw [h2] at ho
        cases ho
        exact absurd (bkR_cells hb) (by decide))).trans h2, h3⟩) ?assign ?body ?done ?stop
  case assign =>
    intro l pre x V K hi hR hK
    unfold encO
    gi_wp2
    have hb : Below V.heap.size V (V.alloc (.cells #[.int .i64 x.k, .slice x.A x.n x.c] 93)) := (Below.refl _ V).alloc (Nat.le_refl _) _
    have hV := hi.2.2.size
    have hV3 := hi.2.1
    refine hK _ _ (KpM.below hb) ⟨Kpk.below hb, KU.below hb⟩ ⟨?_, Nat.le_trans hV3 hb.size, hi.2.2.trans (hb.mono hV)⟩ ⟨V.heap.size, hV3, heap_alloc_new V _, rfl⟩
    obtain ⟨A, c, h1, h2⟩ := hi.1
    exact ⟨A, c, h1.alloc _, h2.below hb⟩
  case body =>
    rintro l pre x a' V ⟨⟨A, c, hbx, hrw⟩, hV3, hbV⟩ ⟨B, hB1, hB2, rfl⟩ hR
    have hxw := (hR.2 x (by simp)).1
    have hpl := hR.len hgs
    rw [List.length_append, List.length_singleton] at hpl
    have q0 : V.cell? ⟨B, 0, none⟩ = some (.int .i64 x.k) := (cell_of_row V B 0 _ _ (0, 0) hB2).trans rfl
    by_cases hk : x.k = 4
    · have hd : (x.k == 4) = true := by rw [hk]; rfl
      have HL := Lib.hid (fun w => load_any x.x hxw w)
      have hc := hbx.cell
      have hf := hbx.frozen
      have hmx : Tryz.prog.follows .mixedOrders = true := by kernel_rfl
      obtain ⟨V2, hV2⟩ : ∃ V2, V2 = V.drew.alloc (.cells #[.int .i64 (ldZ x.x)] 3) := ⟨_, rfl⟩
      have hb2 : Below V.heap.size V V2 := by rw [hV2]; exact ((Below.refl _ V).drew).alloc (Nat.le_refl _) _
      obtain ⟨A3, c3, V3, hrun, hrw3, hg3, hku3⟩ := int_app (hrw.below hb2) (by have := hb2.size; omega) (by have := hdO_len pre; omega) V.heap.size (ldZ x.x) (by rw [hV2]; exact (cell_of_row _ _ 0 _ _ (0, 0) (heap_alloc_new V.drew _)).trans rfl) 26
      have hbx3 : Boxed V3 w.heap.size 26 (.slice A (hdO pre).length c) := by
        refine Boxed.kept ((hb2.block _ (Boxed.lt hbx)).trans hbx) hg3 (fun e => ?_)
        have := (World.ownsRow.lt hrw.row _ e.symm).1
        omega
      have hc3 := hbx3.cell
      have hf3 := hbx3.frozen
      have hc9 : (V.alloc (.cells #[.int .i64 (ldZ x.x)] 3)).cell? ⟨w.heap.size, 0, none⟩ = some (.slice A (hdO pre).length c) := (hbx.alloc _).cell
      have hown3 : ∀ k o, (Value.slice A (hdO pre).length c).ownBlock = some k → V2.heap[k]? = some o → w.heap.size + 3 ≤ k ∧ ∃ cs f, o = .cells cs 3 f := fun k o e ho => by
        have h9 := (World.ownsRow.lt hrw.row k e).1
        obtain ⟨cur, h1, _⟩ := (hrw.below hb2).all k (by rw [← own_of A (hdO pre).length c]; exact e)
        rw [ho] at h1
        injection h1 with h1
        exact ⟨h9, _, _, h1⟩
      have hkk : Kpk (fun k o => k = w.heap.size ∨ (w.heap.size + 3 ≤ k ∧ ∃ cs f, o = .cells cs 3 f)) V (V3.setCell ⟨w.heap.size, 0, none⟩ (.slice A3 ((hdO pre).length + 1) c3)) :=
        ((Kpk.below hb2).trans (Kpk.grown hg3 (fun k o e ho => .inr (hown3 k o e ho)))).trans (Kpk.chg (C := fun k => k = w.heap.size) ((Chg.refl (fun k => k = w.heap.size) V3).setCell (p := ⟨w.heap.size, 0, none⟩) (.inl rfl) _) (fun k o _ e => .inl e))
      have hku : KU V (V3.setCell ⟨w.heap.size, 0, none⟩ (.slice A3 ((hdO pre).length + 1) c3)) := ((KU.below hb2).trans hku3).trans (KU.set hc3 (fun x e => by cases e) _)
      have hsz3 : V.heap.size ≤ V3.heap.size := Nat.le_trans hb2.size hg3.size
      have FIN : Hid (postM MiR W0.heap.size (fun W W' => Kpk (BdK w.heap.size) W W' ∧ KU W W') (fun pre W => (∃ A c, Boxed W w.heap.size 26 (.slice A (hdO pre).length c) ∧ RwA W (w.heap.size + 3) A c (hdO pre)) ∧ (w.heap.size + 3 ≤ W.heap.size ∧ Below w.heap.size w W)) (fun _ _ _ => False) (pre ++ [x]) V .normal { tmps := #[], defers := [] } (V3.setCell ⟨w.heap.size, 0, none⟩ (.slice A3 ((hdO pre).length + 1) c3))) := Lib.hid (by
        refine ⟨⟨hkk.size, fun k o hBk hk hbk => hkk.block k o hk (fun e => ?_)⟩, ⟨hkk.mono (fun k o _ e => ?_), hku⟩, ⟨A3, c3, ?_, ?_⟩, Nat.le_trans hV3 hkk.size, hbV.trans (hkk.toBelow (by omega) (fun k o hk e => by omega))⟩
        · rcases e with e | ⟨_, cs, f, e⟩
          · omega
          · subst e
            exact absurd (bkR_cells hbk) (by decide)
        · rcases e with e | ⟨h1, h2⟩
          · exact .inl e
          · exact .inr ⟨h1, .inl h2⟩
        · rw [hdO_snoc, if_pos hk, List.length_append, List.length_singleton]
          exact hbx3.set _
        · rw [hdO_snoc, if_pos hk]
          exact hrw3.kpk (Kpk.chg (C := fun k => k = w.heap.size) (K := fun k _ => k = w.heap.size) ((Chg.refl (fun k => k = w.heap.size) V3).setCell (p := ⟨w.heap.size, 0, none⟩) (.inl rfl) _) (fun k o _ e => e)) (fun g cs hg e => by omega))
      clear hkk hku hown3 hrw3 hg3 hku3 hbx3
      rw [hV2] at hrun
      gi_wp2
      refine wpIn_region_any (by assumption) ?_
      change wpAnyIn _ _ _ _ _ _ _ _ _ (World.drew _)
-- BEGIN
      refine wpAnyIn_ready (rs := [0, 1]) (by kernel_rfl) (by simp) ?_
      refine AllReadyIn.cons rfl (fun K hK => ?_) ?_
      · go_simp
        refine hK _ _ ?_
        clear hK K
        refine wpAnyIn_ready (rs := [1]) (by kernel_rfl) (by simp) ?_
        refine AllReadyIn.cons rfl (fun K hK => ?_) ?_
        · go_simp
          refine hK _ _ ?_
          clear hK K
          refine wpAnyIn_ready (rs := [2]) (by kernel_rfl) (by simp) ?_
          refine AllReadyIn.cons rfl (fun K hK => ?_) ?_
          · go_simp
            gi_wp2_with ((try refine ⟨trivial, ?_⟩); gi_at_call 54; refine (CallsIn.inRound l (callsIn_wide.2 (HL.out _))).mono ?_; rintro e w9 ⟨rfl, rfl⟩)
            first | (refine hK _ _ ?_; clear hK K) | skip
            refine wpAnyIn_ready (rs := [3]) (by kernel_rfl) (by simp) ?_
            refine AllReadyIn.cons rfl (fun K hK => ?_) ?_
            · go_simp
              refine hK _ _ ?_
              clear hK K
              refine wpAnyIn_ready (rs := [4]) (by kernel_rfl) (by simp) ?_
              refine AllReadyIn.cons rfl (fun K hK => ?_) ?_
              · refine stepIn_apnd rfl _ _ _ rfl _ _ _ rfl rfl hrun ?_
                refine hK _ _ ?_
                clear hK K
                refine wpAnyIn_ready (rs := [5]) (by kernel_rfl) (by simp) ?_
                refine AllReadyIn.cons rfl (fun K hK => ?_) ?_
                · go_simp
                  refine hK _ _ ?_
                  clear hK K
                  refine wpAnyIn_done (by kernel_rfl) ?_ _
                  exact FIN.out
                exact AllReadyIn.nil
              exact AllReadyIn.nil
            exact AllReadyIn.nil
          exact AllReadyIn.nil
        exact AllReadyIn.nil
      refine AllReadyIn.cons rfl (fun K hK => ?_) ?_
      · go_simp
        refine hK _ _ ?_
        clear hK K
        refine wpAnyIn_ready (rs := [0, 2]) (by kernel_rfl) (by simp) ?_
        refine AllReadyIn.cons rfl (fun K hK => ?_) ?_
        · go_simp
          refine hK _ _ ?_
          clear hK K
          refine wpAnyIn_ready (rs := [2]) (by kernel_rfl) (by simp) ?_
          refine AllReadyIn.cons rfl (fun K hK => ?_) ?_
          · go_simp
            gi_wp2_with ((try refine ⟨trivial, ?_⟩); gi_at_call 54; refine (CallsIn.inRound l (callsIn_wide.2 (HL.out _))).mono ?_; rintro e w9 ⟨rfl, rfl⟩)
            first | (refine hK _ _ ?_; clear hK K) | skip
            refine wpAnyIn_ready (rs := [3]) (by kernel_rfl) (by simp) ?_
            refine AllReadyIn.cons rfl (fun K hK => ?_) ?_
            · go_simp
              refine hK _ _ ?_
              clear hK K
              refine wpAnyIn_ready (rs := [4]) (by kernel_rfl) (by simp) ?_
              refine AllReadyIn.cons rfl (fun K hK => ?_) ?_
              · refine stepIn_apnd rfl _ _ _ rfl _ _ _ rfl rfl hrun ?_
                refine hK _ _ ?_
                clear hK K
                refine wpAnyIn_ready (rs := [5]) (by kernel_rfl) (by simp) ?_
                refine AllReadyIn.cons rfl (fun K hK => ?_) ?_
                · go_simp
                  refine hK _ _ ?_
                  clear hK K
                  refine wpAnyIn_done (by kernel_rfl) ?_ _
                  exact FIN.out
                exact AllReadyIn.nil
              exact AllReadyIn.nil
            exact AllReadyIn.nil
          exact AllReadyIn.nil
        refine AllReadyIn.cons rfl (fun K hK => ?_) ?_
        · go_simp
          gi_wp2_with ((try refine ⟨trivial, ?_⟩); gi_at_call 54; refine (CallsIn.inRound l (callsIn_wide.2 (HL.out _))).mono ?_; rintro e w9 ⟨rfl, rfl⟩)
          first | (refine hK _ _ ?_; clear hK K) | skip
          refine wpAnyIn_ready (rs := [0, 3]) (by kernel_rfl) (by simp) ?_
          refine AllReadyIn.cons rfl (fun K hK => ?_) ?_
          · go_simp
            refine hK _ _ ?_
            clear hK K
            refine wpAnyIn_ready (rs := [3]) (by kernel_rfl) (by simp) ?_
            refine AllReadyIn.cons rfl (fun K hK => ?_) ?_
            · go_simp
              refine hK _ _ ?_
              clear hK K
              refine wpAnyIn_ready (rs := [4]) (by kernel_rfl) (by simp) ?_
              refine AllReadyIn.cons rfl (fun K hK => ?_) ?_
              · refine stepIn_apnd rfl _ _ _ rfl _ _ _ rfl rfl hrun ?_
                refine hK _ _ ?_
                clear hK K
                refine wpAnyIn_ready (rs := [5]) (by kernel_rfl) (by simp) ?_
                refine AllReadyIn.cons rfl (fun K hK => ?_) ?_
                · go_simp
                  refine hK _ _ ?_
                  clear hK K
                  refine wpAnyIn_done (by kernel_rfl) ?_ _
                  exact FIN.out
                exact AllReadyIn.nil
              exact AllReadyIn.nil
            exact AllReadyIn.nil
          refine AllReadyIn.cons rfl (fun K hK => ?_) ?_
          · go_simp
            refine hK _ _ ?_
            clear hK K
            refine wpAnyIn_ready (rs := [0]) (by kernel_rfl) (by simp) ?_
            refine AllReadyIn.cons rfl (fun K hK => ?_) ?_
            · go_simp
              refine hK _ _ ?_
              clear hK K
              refine wpAnyIn_ready (rs := [4]) (by kernel_rfl) (by simp) ?_
              refine AllReadyIn.cons rfl (fun K hK => ?_) ?_
              · refine stepIn_apnd rfl _ _ _ rfl _ _ _ rfl rfl hrun ?_
                refine hK _ _ ?_
                clear hK K
                refine wpAnyIn_ready (rs := [5]) (by kernel_rfl) (by simp) ?_
                refine AllReadyIn.cons rfl (fun K hK => ?_) ?_
                · go_simp
                  refine hK _ _ ?_
                  clear hK K
                  refine wpAnyIn_done (by kernel_rfl) ?_ _
                  exact FIN.out
                exact AllReadyIn.nil
              exact AllReadyIn.nil
            exact AllReadyIn.nil
          exact AllReadyIn.nil
        exact AllReadyIn.nil
      exact AllReadyIn.nil
-- END
    · have hd : (x.k == 4) = false := beq_eq_false_iff_ne.2 hk
      gi_wp2
      refine ⟨KpM.refl _ _ _, ⟨Kpk.refl _ _, KU.refl _⟩, ⟨A, c, ?_, ?_⟩, hV3, hbV⟩
      · rw [hdO_snoc, if_neg hk]; exact hbx
      · rw [hdO_snoc, if_neg hk]; exact hrw
  case done =>
    rintro D' xs V hD hR ⟨⟨A, c, hbx, hrw⟩, hV3, hbV⟩ hK
    have hc := hbx.cell
    gi_wp2
    refine ⟨by simp, .inl ⟨_, _, rfl, run_takeDeferred hK, ?_⟩⟩
    have hrw2 := hrw.bk (B' := 0) (grownBy_putObj' V D' (.deferred none)) (fun r' e => by cases e; exact ⟨Nat.zero_le _, _, hK, .inr (.inl ⟨_, rfl⟩)⟩)
    exact ⟨_, results_tmp rfl _ _ _, A, c, xs, rfl, hR, ⟨own_mono hrw2.row (by omega), hrw2.all⟩, hbV.trans (belowK_b (w := w) (Nat.le_refl _) _ D' _ _ (by omega) hK rfl rfl)⟩
  case stop =>
    rintro D c pre V _ _ h _
    exact h.elim
end Go.Proofs.YtejmmjedognaaaaGreat

namespace Go.Proofs.YtejmmjedognaaaaGreat
open Go.RowKit Go.Shelf
open St
attribute [local go_sem] Oper.semAt_some

/-- Whether it is a HeadRefc that denotes a slot. -/
def dnR (S : List Slt) : Option (Int × List Int) → Bool
  | some (k, ws) => decide (k = 4) && (slO S ws).isSome
  | none => false
def dnO (gs : List Frg) (S : List Slt) (a : Int) : Bool := pmB 4 a && dnR S (objO gs (mkZ 4 a))
set_option maxRecDepth 100000 in
theorem mkZ_wd (a : Int) : Wd (mkZ 4 a) := by unfold Wd mkZ; omega
set_option maxRecDepth 100000 in
theorem obj_form {gs : List Frg} {x k : Int} {ws : List Int} (h : objO gs x = some (k, ws)) : formO gs k ws = true := by
  unfold objO at h
  split at h
  · cases h
  · split at h
    · next h2 => injection h with h; injection h with h3 h4; subst h3; subst h4; exact h2
    · cases h
set_option maxRecDepth 100000 in
set_option maxRecDepth 100000 in
set_option maxHeartbeats 8000000 in
theorem denotes_any {w : World} {gs : List Frg} {mv : Value} (hM : Mm w gs mv) (hgs : ∀ f ∈ gs, f.ws.length ≤ 1000) {SA : Option Addr} {sm sc : Nat} {S : List Slt} (hS : SLs w SA sm sc S) (hsm : sm ≤ 1000) (a : Int) :
    Calls Tryz.prog 67 #[mv, .slice SA sm sc, .int .i64 a] w fun e w' => e = .returned (.bool (dnO gs S a)) ∧ Below w.heap.size w w' := by
  cases hp : pmB 4 a
  · have E : Hid (dnO gs S a = false) := Lib.hid (by unfold dnO; rw [hp]; rfl)
    have H := Lib.hid hp
    clear hp hM hgs hS
    go_enter Tryz.func67, Tryz.ntmps67
    go_wp2_with (go_at_call 98; refine (make_any _ _ _).mono ?_; rintro e w' ⟨rfl, rfl⟩; rw [H.out])
    go_ret
    exact ⟨by rw [E.out]; rfl, Below.refl _ _⟩
  · have H := Lib.hid hp
    have HX := Lib.hid (mkZ_wd a)
    obtain ⟨oo, hoo⟩ : ∃ oo, oo = objO gs (mkZ 4 a) := ⟨_, rfl⟩
    have HOb := Lib.hid (objectAt_any hM hgs (mkZ 4 a) (mkZ_wd a))
    rw [← hoo] at HOb
    have E0 : Hid (dnO gs S a = dnR S oo) := Lib.hid (by unfold dnO; rw [hp, ← hoo]; rfl)
    clear hp hM
    rcases oo with _ | ⟨k, ws⟩
    · have E1 : Hid (dnO gs S a = false) := Lib.hid E0.out
      clear E0 hoo hgs hS
      go_enter Tryz.func67, Tryz.ntmps67
      go_wp2_with (first
        | (go_at_call 98; refine (make_any _ _ _).mono ?_; rintro e w' ⟨rfl, rfl⟩; rw [H.out]; simp only [if_true])
        | (go_at_call 55; (with_reducible refine HOb.out.mono ?_); rintro e w1 ⟨(⟨_, rfl⟩ | ⟨k1, ws1, A1, n1, c1, hc1, rfl, hz1⟩), hb1⟩; rotate_left 1; (exact absurd hc1 (by simp)); replace hb1 := Lib.hid hb1))
      go_ret
      exact ⟨by rw [E1.out]; rfl, hb1.out.alloc hb1.out.size _⟩
    · have HF := Lib.hid (obj_form hoo.symm)
      by_cases hk : k = 4
      · subst hk
        have E1 : Hid (dnO gs S a = (slO S ws).isSome) := Lib.hid E0.out
        obtain ⟨hl3, l1, l2, _⟩ := byC_sl (S := S) (ws := ws) HF.out
        have HSl : Hid (∀ w1 A1 n1 c1, Below w.heap.size w w1 → Zs .u64 w1 A1 n1 c1 ws → n1 = 3 ∧ Calls Tryz.prog 99 #[.slice SA sm sc, .agg #[.int .i64 4, .slice A1 3 c1]] w1 (SlP w1 (slO S ws))) := Lib.hid (fun w1 A1 n1 c1 hb hz => by
          have hn3 : n1 = 3 := by rw [← hz.len, hl3]
          subst hn3
          have hx1 := wf_u (hz.wfAt (j := 1) (by omega))
          have hx2 := wf_u (hz.wfAt (j := 2) (by omega))
          exact ⟨rfl, slotOf_any (hS.below hb) hsm hz 4 (l1 hx1.1) (l2 hx2.1)⟩)
        clear E0 hoo hgs hS HF hl3 l1 l2
        generalize slO S ws = so at *
        go_enter Tryz.func67, Tryz.ntmps67
        go_wp2_with (first
          | (go_at_call 98; refine (make_any _ _ _).mono ?_; rintro e w' ⟨rfl, rfl⟩; rw [H.out]; simp only [if_true])
          | (go_at_call 55; (with_reducible refine HOb.out.mono ?_); rintro e w1 ⟨(⟨hcn, rfl⟩ | ⟨k1, ws1, A1, n1, c1, hc1, rfl, hz1⟩), hb1⟩; (exact absurd hcn (by simp)); (injection hc1 with hc1; injection hc1 with hc1 hc2; subst hc1; subst hc2); replace hb1 := Lib.hid hb1; replace hz1 := Lib.hid hz1)
          | (go_at_call 99; obtain ⟨hn3, hsl⟩ := HSl.out _ A1 n1 c1 (hb1.out.alloc hb1.out.size (.cells #[.int .i64 4, .slice A1 n1 c1] 93)) (hz1.out.below ((Below.refl _ _).alloc (Nat.le_refl _) _)); subst hn3; refine hsl.mono ?_; clear hsl; rintro e w3 ⟨rfl, hb3⟩; replace hb3 := Lib.hid hb3))
        go_ret
        have hb4 := (hb1.out.alloc hb1.out.size (.cells #[.int .i64 4, .slice A1 3 c1] 93))
        have hb5 := hb4.trans (hb3.out.mono hb4.size)
        exact ⟨by rw [E1.out]; rfl, hb5.alloc hb5.size _⟩
      · have hd : (k == 4) = false := beq_eq_false_iff_ne.2 hk
        have hd2 : (k != 4) = true := by simp [bne, hd]
        have E1 : Hid (dnO gs S a = false) := Lib.hid (by rw [E0.out]; unfold dnR; simp [hk])
        clear E0 hoo hgs hS HF hk
        go_enter Tryz.func67, Tryz.ntmps67
        go_wp2_with (first
          | (go_at_call 98; refine (make_any _ _ _).mono ?_; rintro e w' ⟨rfl, rfl⟩; rw [H.out]; simp only [if_true])
          | (go_at_call 55; (with_reducible refine HOb.out.mono ?_); rintro e w1 ⟨(⟨hcn, rfl⟩ | ⟨k1, ws1, A1, n1, c1, hc1, rfl, hz1⟩), hb1⟩; (exact absurd hcn (by simp)); (injection hc1 with hc1; injection hc1 with hc1 hc2; subst hc1; subst hc2); replace hb1 := Lib.hid hb1; replace hz1 := Lib.hid hz1))
        go_ret
        exact ⟨by rw [E1.out]; rfl, hb1.out.alloc hb1.out.size _⟩
end Go.Proofs.YtejmmjedognaaaaGreat

namespace Go.Proofs.YtejmmjedognaaaaGreat
open Go.RowKit Go.Shelf
open St

set_option maxRecDepth 100000 in
theorem lawI3 : Maps.Keyed Tryz.prog 3 := Maps.int_keyed Tryz.underlying3
set_option maxRecDepth 100000 in
theorem und_mi : Tryz.prog.underlying 117 = some (.map 3 118) := by kernel_rfl
set_option maxRecDepth 100000 in
theorem mk_hint (x : Int) (w : World) : (Instr.makeMap 117 (some (.int .i64 x))).run Tryz.prog w = .ok (.map (some w.heap.size)) (w.alloc (.map #[] 0)) := by
  simp [Instr.makeMap, run_underlying und_mi, asInt, asIntOf, Result.andThen]
/-- The handles that were gone through. -/
def MpA (V : World) (E : Nat) (l : List Int) : Prop :=
  ∃ D : DataW Unit, V.ownsMap Tryz.prog 3 unitElem E l.length D ∧ Maps.Tidy D ∧ ∀ x : Int, Maps.has D (.int .i64 x) = true ↔ x ∈ l
set_option maxRecDepth 100000 in
theorem MpA.put {V' : World} {E : Nat} {l : List Int} {D : DataW Unit} {a : Int} (htd : Maps.Tidy D) (h1 : ∀ x : Int, Maps.has D (.int .i64 x) = true ↔ x ∈ l) (ho : V'.ownsMap Tryz.prog 3 unitElem E (l.length + 1) (D.put (.int .i64 a) (.agg []))) : MpA V' E (l ++ [a]) := by
  have hk : WideAt.IsKeyLit (.int .i64 a) := trivial
  refine ⟨_, by rw [List.length_append]; exact ho, htd.put hk _, fun x => ?_⟩
  by_cases e : x = a
  · subst e
    rw [Maps.has_put_same htd.isMap hk]
    simp
  · have hne : (Lit.int .i64 x) ≠ .int .i64 a := fun h => e (by injection h)
    rw [Maps.has_put_other hne, h1 x, List.mem_append]
    simp [e]
set_option maxRecDepth 100000 in
theorem MpA.below {V V' : World} {E : Nat} {l : List Int} (h : MpA V E l) (hb : Below V.heap.size V V') : MpA V' E l := by
  obtain ⟨D, ⟨es, clock, hm, r⟩, h2⟩ := h
  exact ⟨D, ⟨es, clock, (hb.block E (Array.getElem?_eq_some_iff.1 hm).1).trans hm, r⟩, h2⟩
/-- The handles are objects that denote slots, each once, and all that the roots reach. -/
def HdOk (gs : List Frg) (S : List Slt) (roots hs : List Int) : Prop :=
  (∀ a ∈ hs, dnO gs S a = true) ∧ hs.Nodup ∧ ∀ x ws, Rch gs roots x → objO gs x = some (4, ws) → ldZ x ∈ hs
set_option maxRecDepth 100000 in
theorem hdO_all {gs : List Frg} {roots hs : List Int} {l : List OR} (h : Rchd gs roots l) : (∀ a ∈ hdO l, a ∈ hs) ↔ ∀ x ws, Rch gs roots x → objO gs x = some (4, ws) → ldZ x ∈ hs := by
  constructor
  · intro ha x ws hx ho
    obtain ⟨p, hp, rfl⟩ := List.mem_map.1 ((h.2 x).2 hx)
    have h1 := (h.1.2 p hp).2.1
    rw [ho] at h1
    injection h1 with h1
    injection h1 with h1 _
    exact ha _ (List.mem_map.2 ⟨p, List.mem_filter.2 ⟨hp, by rw [← h1]; rfl⟩, rfl⟩)
  · intro hx a ha
    obtain ⟨p, hp, rfl⟩ := List.mem_map.1 ha
    obtain ⟨hp, hk⟩ := List.mem_filter.1 hp
    have hk : p.k = 4 := of_decide_eq_true hk
    have h1 := (h.1.2 p hp).2.1
    rw [hk] at h1
    exact hx p.x p.ws ((h.2 p.x).1 (List.mem_map.2 ⟨p, hp, rfl⟩)) h1
set_option maxRecDepth 100000 in
/-- A row of ints in memory. -/
theorem RwA.zs {w : World} {B : Nat} {A : Option Addr} {c : Nat} {zs : List Int} (h : RwA w B A c zs) (hwf : ∀ x ∈ zs, (Lit.int .i64 x).wf = true) : Zs .i64 w A zs.length c zs := by
  rcases h.row.2 with ⟨h0, h1⟩ | ⟨g, cap, cur, hv, hbg, hgg, hnc, hcm, hcs, htk⟩
  · injection h0 with e1 e2 e3
    have hzs : zs = [] := List.eq_nil_of_length_eq_zero h1
    subst e1 e3 hzs
    exact Zs.nil _ _
  · injection hv with e1 _ e3
    subst e1 e3
    refine ⟨rfl, hnc, hcm, hwf, fun hn => ⟨g, 0, rfl, (Array.getElem?_eq_some_iff.1 hgg).1, fun j hj => ?_⟩⟩
    have h1 := World.ownsRow.cellAt h.row j (by omega)
    rw [Nat.zero_add, h1, i64s, List.getElem?_map, List.getD_eq_getElem?_getD, List.getElem?_eq_getElem hj]
    rfl
set_option maxRecDepth 100000 in
theorem ld_wf {x : Int} (h : Wd x) : (Lit.int .i64 (ldZ x)).wf = true := by
  refine WalkArith.wf_i64 ?_
  unfold Wd at h
  unfold ldZ
  split
  · split <;> omega
  · omega
set_option maxRecDepth 100000 in
theorem hdO_wf {gs : List Frg} {l : List OR} (h : ORok gs l) : ∀ x ∈ hdO l, (Lit.int .i64 x).wf = true := fun x hx => by
  obtain ⟨p, hp, rfl⟩ := List.mem_map.1 hx
  exact ld_wf (h.2 p (List.mem_filter.1 hp).1).1
set_option maxRecDepth 100000 in
set_option maxRecDepth 100000 in
set_option maxHeartbeats 8000000 in
theorem handled_any {w : World} {gs : List Frg} {S : List Slt} {mv : Value} {SA : Option Addr} {sm sc : Nat} (hM : Mm w gs mv) (hgs : ∀ f ∈ gs, f.ws.length ≤ 1000) (hgl : gs.length ≤ 8) (hS : SLs w SA sm sc S) (hsm : sm ≤ 1000) {r : DR} {d : Dmp} (hd : DV w r d) (hrm : r.rm ≤ 1000) (hhm : r.hm ≤ 1000) :
    Calls Tryz.prog 33 #[mv, .slice SA sm sc, .agg #[.int .i64 r.y.at_, .slice r.y.A r.y.n r.y.c, .int .i64 r.o.at_, .slice r.o.A r.o.n r.o.c, .int .i64 r.size, .int .i64 r.mark, .slice r.F r.fm r.fc, .slice r.R r.rm r.rc, .slice r.H r.hm r.hc]] w fun e w' => ∃ b, e = .returned (.bool b) ∧ (b = true ↔ HdOk gs S d.roots d.hs) ∧ Below w.heap.size w w' := by
  have hmm := mk_hint
  obtain ⟨T, v, hmv⟩ := hM.iface
  obtain ⟨wa, hwa⟩ : ∃ wa, wa = w.alloc (.cells #[.int .i64 r.y.at_, .slice r.y.A r.y.n r.y.c, .int .i64 r.o.at_, .slice r.o.A r.o.n r.o.c, .int .i64 r.size, .int .i64 r.mark, .slice r.F r.fm r.fc, .slice r.R r.rm r.rc, .slice r.H r.hm r.hc] 28) := ⟨_, rfl⟩
  have hba : Below w.heap.size w wa := by rw [hwa]; exact (Below.refl _ w).alloc (Nat.le_refl _) _
  have bxa : Bx wa w.heap.size r := ⟨by rw [hwa]; exact heap_alloc_new w _⟩
  have q7 := bxa.c7
  have q8 := bxa.c8
  subst hmv
  have hzh := hd.hs.below hba
  have hzr := hd.roots.below hba
  have HF : Hid (∀ w', Below wa.heap.size wa w' → (w'.cell? ⟨w.heap.size, 7, none⟩ = some (.slice r.R r.rm r.rc) ∧ w'.cell? ⟨w.heap.size, 8, none⟩ = some (.slice r.H r.hm r.hc)) ∧ Zs .i64 w' r.H r.hm r.hc d.hs ∧ (∀ a, Calls Tryz.prog 67 #[.iface T v, .slice SA sm sc, .int .i64 a] w' fun e w2 => e = .returned (.bool (dnO gs S a)) ∧ Below w'.heap.size w' w2) ∧ Calls Tryz.prog 44 #[.iface T v, .slice r.R r.rm r.rc] w' (RhP w' gs d.roots)) :=
    Lib.hid (fun w' hb => ⟨⟨(bxa.below hb bxa.lt).c7, (bxa.below hb bxa.lt).c8⟩, hzh.below hb, fun a => denotes_any ((hM.below hba).below hb) hgs ((hS.below hba).below hb) hsm a, rh_any ((hM.below hba).below hb) hgs hgl (hzr.below hb) hrm⟩)
  have HB : Hid (∀ w', Below wa.heap.size wa w' → Below w.heap.size w w') := Lib.hid (fun w' hb => hba.trans (hb.mono hba.size))
  have HA : Hid (0 < r.hm → ∃ b o, r.H = some ⟨b, o, none⟩) := Lib.hid (fun h => by
    obtain ⟨b, o, e, _⟩ := hzh.some h
    exact ⟨b, o, e⟩)
  have hl := Lib.hid hzh.len
  have hwfh : Hid (∀ j : Nat, j < r.hm → (Lit.int .i64 (d.hs.getD j 0)).wf = true) := Lib.hid (fun j hj => hzh.wfAt hj)
  have H0 : Hid (Below wa.heap.size wa (wa.alloc (.map #[] 0)) ∧ MpA (wa.alloc (.map #[] 0)) wa.heap.size (d.hs.take 0)) := Lib.hid ⟨(Below.refl _ wa).alloc (Nat.le_refl _) _, .map [], World.ownsMap_made wa Tryz.prog 3 (unitElem (H := Unit)), Maps.tidy_empty, fun x => ⟨fun h => absurd h (by simp [Maps.has]), fun h => by simp at h⟩⟩
  clear hM hgs hgl hS hd hrm hba bxa hzh hzr q7
  generalize r.H = Ah at *
  generalize r.hm = hm at *
  generalize r.R = Ar at *
  go_enter Tryz.func33, Tryz.ntmps33
  go_upto_region 1 with fail
  rw [← hwa]
  clear hwa
  generalize hE : w.heap.size = E at *
  replace hE := Lib.hid hE
  go_upto_region 2 with fail
  generalize hw0 : wa.alloc (.map #[] 0) = wc at *
  have q8 := (HF.out wc H0.out.1).1.2
  generalize hMb : wa.heap.size = M at *
  replace hMb := Lib.hid hMb
  go_upto_region 3 with fail
  go_loopw [23] (fun v23 wx => ∃ i : Nat, i ≤ hm ∧ v23 = .int .i64 (i : Int) ∧ Hid ((∀ a ∈ d.hs.take i, dnO gs S a = true) ∧ (d.hs.take i).Nodup) ∧ Hid (Below M wa wx ∧ MpA wx M (d.hs.take i))) (fun v23 _ => hm - (intOf v23).toNat)
  case atStart => exact ⟨0, Nat.zero_le _, rfl, Lib.hid ⟨fun x hx => by simp at hx, by simp⟩, Lib.hid H0.out⟩
  case round =>
    clear H0 q8
    obtain ⟨i, hi, rfl, HR, H⟩ := hrel
    by_cases him : i < hm
    · have hd1 : decide ((i : Int) < (hm : Int)) = true := decide_eq_true (by omega)
      obtain ⟨b, o, hA⟩ := HA.out (by omega)
      have hz := (HF.out _ H.out.1).2.1
      subst hA
      have y0 := hz.at_ him
      have hkey := Maps.keyOf_int_mk Tryz.underlying3 (hwfh.out i him)
      have hil := Lib.hid (show i < d.hs.length by rw [hl.out]; exact him)
      obtain ⟨D, hown, htd, hhas⟩ := H.out.2
      rw [List.length_take, Nat.min_eq_left (Nat.le_of_lt hil.out)] at hown
      have HO : Hid (∀ w', Below wr.heap.size wr w' → w'.ownsMap Tryz.prog 3 unitElem M i D) := Lib.hid (fun w' hb => by
        obtain ⟨es, clock, hm, rr⟩ := hown
        exact ⟨es, clock, (hb.block M (Array.getElem?_eq_some_iff.1 hm).1).trans hm, rr⟩)
      have hsz := H.out.1.size
      clear hz hown
      generalize hxx : d.hs.getD i 0 = x at *
      replace hxx := Lib.hid hxx
      have hin : x ∈ d.hs := by
        rw [← hxx.out, List.getD_eq_getElem?_getD, List.getElem?_eq_getElem hil.out]
        exact List.getElem_mem hil.out
      have hq : Hid (Below M wa (wr.alloc (.cells #[] 118))) := Lib.hid (H.out.1.alloc (by rw [← hMb.out]; exact hsz) _)
      have HDn := Lib.hid ((HF.out _ hq.out).2.2.1 x)
      cases hh : Maps.has D (.int .i64 x) with
      | true =>
        have HN : Hid (¬ HdOk gs S d.roots d.hs) := Lib.hid (fun hk => by
          have h1 : (d.hs.take (i + 1)).Nodup := hk.2.1.sublist (List.take_sublist _ _)
          rw [take_gd hil.out, hxx.out] at h1
          exact (List.nodup_append.1 h1).2.2 x ((hhas x).1 hh) x (by simp) rfl)
        clear htd hhas hin
        go_wp2_with (at_lookup; go_loud (refine wpList_lookup_own_unit _ rfl _ _ 117 rfl 3 118 lawI3 und_mi (zeroS _) _ _ D rfl (HO.out _ (by first | exact Below.refl _ _ | exact (Below.refl _ _).alloc (Nat.le_refl _) _)) _ _ rfl hkey ?_; rw [hh]))
        go_ret
        exact ⟨false, rfl, ⟨fun h => absurd h (by decide), fun h => absurd h HN.out⟩, by rw [hE.out]; exact HB.out _ hq.out⟩
      | false =>
        cases hdn : dnO gs S x with
        | false =>
          have HN : Hid (¬ HdOk gs S d.roots d.hs) := Lib.hid (fun hk => by
            have h1 := hk.1 x hin
            rw [hdn] at h1
            cases h1)
          clear htd hhas hin
          go_wp2_with (first | (at_lookup; go_loud (refine wpList_lookup_own_unit _ rfl _ _ 117 rfl 3 118 lawI3 und_mi (zeroS _) _ _ D rfl (HO.out _ (by first | exact Below.refl _ _ | exact (Below.refl _ _).alloc (Nat.le_refl _) _)) _ _ rfl hkey ?_; rw [hh])) | (go_at_call 67; (with_reducible refine (HDn.out).mono ?_); rintro e w3 ⟨rfl, hb3⟩; rw [hdn]; replace hb3 := Lib.hid hb3))
          go_ret
          exact ⟨false, rfl, ⟨fun h => absurd h (by decide), fun h => absurd h HN.out⟩, by rw [hE.out]; exact HB.out _ (hq.out.trans (hb3.out.mono (by rw [← hMb.out]; exact hq.out.size)))⟩
        | true =>
          clear hin
          have hlm : i < maxLen := by unfold maxLen; omega
          go_wp2_with (first | (at_lookup; go_loud (refine wpList_lookup_own_unit _ rfl _ _ 117 rfl 3 118 lawI3 und_mi (zeroS _) _ _ D rfl (HO.out _ (by first | exact Below.refl _ _ | exact (Below.refl _ _).alloc (Nat.le_refl _) _)) _ _ rfl hkey ?_; rw [hh])) | (go_at_call 67; (with_reducible refine (HDn.out).mono ?_); rintro e w3 ⟨rfl, hb3⟩; rw [hdn]; replace hb3 := Lib.hid hb3) | (at_mapUpdate; go_loud (refine wpList_mapUpdate_own _ rfl _ _ _ 117 rfl 3 118 lawI3 und_mi _ M i D rfl (HO.out _ (((Below.refl _ wr).alloc (Nat.le_refl _) _).trans (hb3.out.mono (by simp)))) hlm _ _ _ rfl rfl hkey _ _ unitElem_mk ?_; intro w5 hown5 hgrow5; replace hown5 := Lib.hid hown5; replace hgrow5 := Lib.hid hgrow5)))
          have hx1 : Hid ((∀ a ∈ d.hs.take (i + 1), dnO gs S a = true) ∧ (d.hs.take (i + 1)).Nodup) := Lib.hid (by
            rw [take_gd hil.out, hxx.out]
            refine ⟨fun a ha => ?_, List.nodup_append.2 ⟨HR.out.2, by simp, fun a ha b hb e => ?_⟩⟩
            · rcases List.mem_append.1 ha with ha | ha
              · exact HR.out.1 a ha
              · rw [List.mem_singleton.1 ha]; exact hdn
            · rw [List.mem_singleton.1 hb] at e
              subst e
              rw [(hhas a).2 ha] at hh
              cases hh)
          have h3 : Below M wa w3 := hq.out.trans (hb3.out.mono (by rw [← hMb.out]; exact hq.out.size))
          have hx2 : Hid (Below M wa w5 ∧ MpA w5 M (d.hs.take (i + 1))) := Lib.hid (by
            refine ⟨h3.grown hgrow5.out (by rw [← hMb.out]; exact h3.size) (fun k e => by cases e; exact Nat.le_refl _), ?_⟩
            rw [take_gd hil.out, hxx.out]
            refine MpA.put htd hhas ?_
            rw [List.length_take, Nat.min_eq_left (Nat.le_of_lt hil.out)]
            exact hown5.out)
          exact ⟨⟨i + 1, by omega, rfl, hx1, hx2⟩, by simp [intOf]; omega⟩
    · have e : i = hm := by omega
      subst e
      have hd1 : decide ((i : Int) < (i : Int)) = false := decide_eq_false (by omega)
      have q7 := (HF.out _ H.out.1).1.1
      have HRh := Lib.hid (HF.out _ H.out.1).2.2.2
      have HR2 : Hid ((∀ a ∈ d.hs, dnO gs S a = true) ∧ d.hs.Nodup) := Lib.hid (by
        have h9 := HR.out
        rw [List.take_of_length_le (by rw [hl.out]; exact Nat.le_refl _)] at h9
        exact h9)
      have HM2 : Hid (MpA wr M d.hs) := Lib.hid (by
        have h9 := H.out.2
        rw [List.take_of_length_le (by rw [hl.out]; exact Nat.le_refl _)] at h9
        exact h9)
      have hsz := H.out.1.size
      clear HR
      go_upto_region 11 with (go_at_call 44; (with_reducible refine (HRh.out).mono ?_); rintro e w2 ⟨A2, c2, l, rfl, hRl, hrw, hb2⟩)
      have HJ := Lib.hid (hdO_all (hs := d.hs) hRl)
      have hz2 := hrw.zs (hdO_wf hRl.1)
      have HB2 : Hid (Below M wa w2) := Lib.hid (H.out.1.trans (hb2.mono (by rw [← hMb.out]; exact hsz)))
      have HM3 : Hid (MpA w2 M d.hs) := Lib.hid (HM2.out.below hb2)
      clear hrw hRl HRh HM2 hb2 hsz q7
      generalize hdO l = zs at *
      generalize hn2 : zs.length = n2 at *
      have hn9 : n2 ≤ 9223372036854775807 := Nat.le_trans hz2.nc hz2.cm
      have HZ := Lib.hid hz2
      have HA2 : Hid (0 < n2 → ∃ b o, A2 = some ⟨b, o, none⟩) := Lib.hid (fun h => by
        obtain ⟨b, o, e, _⟩ := hz2.some h
        exact ⟨b, o, e⟩)
      clear hz2
      replace hn2 := Lib.hid hn2
      go_loopw [50] (fun v50 wx => ∃ j : Nat, j ≤ n2 ∧ v50 = .int .i64 (j : Int) ∧ Hid (∀ a ∈ zs.take j, a ∈ d.hs) ∧ Hid (Below w2.heap.size w2 wx)) (fun v50 _ => n2 - (intOf v50).toNat)
      case atStart => exact ⟨0, Nat.zero_le _, rfl, Lib.hid (fun x hx => by simp at hx), Lib.hid (Below.refl _ _)⟩
      case round =>
        obtain ⟨j, hj, rfl, HQ, HV⟩ := hrel
        have HW : Hid (∀ w', Below wr.heap.size wr w' → Below w.heap.size w w') := Lib.hid (fun w' hb => by
          rw [hE.out]
          exact HB.out _ ((HB2.out.trans (HV.out.mono (by rw [← hMb.out]; exact HB2.out.size))).trans (hb.mono (by rw [← hMb.out]; exact Nat.le_trans HB2.out.size HV.out.size))))
        by_cases hjn : j < n2
        · have hd2 : decide ((j : Int) < (n2 : Int)) = true := decide_eq_true (by omega)
          obtain ⟨b, o, hA⟩ := HA2.out (by omega)
          subst hA
          have hz := HZ.out.below HV.out
          have y0 := hz.at_ hjn
          have hkey := Maps.keyOf_int_mk Tryz.underlying3 (hz.wfAt hjn)
          have hjl := Lib.hid (show j < zs.length by rw [hn2.out]; exact hjn)
          obtain ⟨D, hown, htd, hhas⟩ := HM3.out.below HV.out
          have HO : Hid (∀ w', Below wr.heap.size wr w' → w'.ownsMap Tryz.prog 3 unitElem M d.hs.length D) := Lib.hid (fun w' hb => by
            obtain ⟨es, clock, hm, rr⟩ := hown
            exact ⟨es, clock, (hb.block M (Array.getElem?_eq_some_iff.1 hm).1).trans hm, rr⟩)
          clear hz hown htd
          generalize hxx : zs.getD j 0 = x at *
          replace hxx := Lib.hid hxx
          have hin : x ∈ zs := by
            rw [← hxx.out, List.getD_eq_getElem?_getD, List.getElem?_eq_getElem hjl.out]
            exact List.getElem_mem hjl.out
          cases hh : Maps.has D (.int .i64 x) with
          | false =>
            have HN : Hid (¬ HdOk gs S d.roots d.hs) := Lib.hid (fun hk => by
              have h1 := HJ.out.2 hk.2.2 x hin
              rw [(hhas x).2 h1] at hh
              cases hh)
            clear hhas hin
            go_wp2_with (at_lookup; go_loud (refine wpList_lookup_own_unit _ rfl _ _ 117 rfl 3 118 lawI3 und_mi (zeroS _) _ _ D rfl (HO.out _ (by first | exact Below.refl _ _ | exact (Below.refl _ _).alloc (Nat.le_refl _) _)) _ _ rfl hkey ?_; rw [hh]))
            go_ret
            exact ⟨false, rfl, ⟨fun h => absurd h (by decide), fun h => absurd h HN.out⟩, HW.out _ ((Below.refl _ _).alloc (Nat.le_refl _) _)⟩
          | true =>
            have hx1 : Hid (∀ a ∈ zs.take (j + 1), a ∈ d.hs) := Lib.hid (by
              rw [take_gd hjl.out, hxx.out]
              intro a ha
              rcases List.mem_append.1 ha with ha | ha
              · exact HQ.out a ha
              · rw [List.mem_singleton.1 ha]; exact (hhas x).1 hh)
            clear hhas hin
            go_wp2_with (at_lookup; go_loud (refine wpList_lookup_own_unit _ rfl _ _ 117 rfl 3 118 lawI3 und_mi (zeroS _) _ _ D rfl (HO.out _ (by first | exact Below.refl _ _ | exact (Below.refl _ _).alloc (Nat.le_refl _) _)) _ _ rfl hkey ?_; rw [hh]))
            exact ⟨⟨j + 1, by omega, rfl, hx1, Lib.hid (HV.out.alloc HV.out.size _)⟩, by simp [intOf]; omega⟩
        · have e : j = n2 := by omega
          subst e
          have hd2 : decide ((j : Int) < (j : Int)) = false := decide_eq_false (by omega)
          have HY : Hid (HdOk gs S d.roots d.hs) := Lib.hid ⟨HR2.out.1, HR2.out.2, HJ.out.1 (fun a ha => by
            have h9 := HQ.out
            rw [List.take_of_length_le (by rw [hn2.out]; exact Nat.le_refl _)] at h9
            exact h9 a ha)⟩
          go_wp2
          go_ret
          exact ⟨true, rfl, ⟨fun _ => HY.out, fun _ => rfl⟩, HW.out _ (Below.refl _ _)⟩
end Go.Proofs.YtejmmjedognaaaaGreat
