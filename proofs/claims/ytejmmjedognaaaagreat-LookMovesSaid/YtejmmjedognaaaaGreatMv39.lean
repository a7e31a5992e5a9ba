/-
  PACKAGE look: Live.
  PACKAGE look: Why.
-/
import Derived.Test.YtejmmjedognaaaaGreatMv38
import Derived.Test.YtejmmjedognaaaaGreatMv35
import Derived.Test.YtejmmjedognaaaaGreatMv28
import Derived.Test.YtejmmjedognaaaaGreatMv34
namespace Go.Proofs.YtejmmjedognaaaaGreat
open Go.RowKit Go.Shelf
open St
attribute [local go_sem] Oper.semAt_some

/-- How many words an object holds, its head counted. -/
def szI (p : OR) : Int := if p.k = -1 then (p.n : Int) else 1 + p.n
def szO (l : List OR) : Int := (l.map szI).sum
set_option maxRecDepth 100000 in
theorem szO_snoc (l : List OR) (p : OR) : szO (l ++ [p]) = szO l + szI p := by
  unfold szO
  rw [List.map_append, List.sum_append]
  simp
set_option maxRecDepth 100000 in
theorem szO_bound : ∀ (l : List OR), (∀ p ∈ l, p.n ≤ 1000) → 0 ≤ szO l ∧ szO l ≤ 1001 * l.length
  | [], _ => by simp [szO]
  | p :: l, h => by
    have h1 := szO_bound l (fun q hq => h q (by simp [hq]))
    have h2 := h p (by simp)
    have e : szO (p :: l) = szI p + szO l := by simp [szO]
    have h3 : 0 ≤ szI p ∧ szI p ≤ 1001 := by unfold szI; split <;> omega
    rw [e, List.length_cons]
    omega
/-- What separate tells, of regions that are apart or not. -/
def sepG (gs gs' : List Frg) : Prop := (Sepa gs ∧ gs' = gs) ∨ (¬ Sepa gs ∧ gs' = [])
set_option maxRecDepth 100000 in
theorem sepG_sub {gs gs' : List Frg} (h : sepG gs gs') : gs'.length ≤ gs.length ∧ ∀ f ∈ gs', f ∈ gs := by
  rcases h with ⟨_, e⟩ | ⟨_, e⟩
  · subst e; exact ⟨Nat.le_refl _, fun f hf => hf⟩
  · subst e; exact ⟨Nat.zero_le _, fun f hf => by simp at hf⟩
def SepQ (w : World) (gs : List Frg) (e : Ending) (w' : World) : Prop :=
  ∃ gs' A n c ok, e = .returned (.tuple #[.slice A n c, .bool ok]) ∧ sepG gs gs' ∧ (ok = true ↔ Sepa gs) ∧ Mm w' gs' (.iface 74 (.slice A n c)) ∧ Below w.heap.size w w'
set_option maxRecDepth 100000 in
theorem sep_q {w : World} {gs : List Frg} {e : Ending} {w' : World} (h : SepP w gs e w') : SepQ w gs e w' := by
  obtain ⟨h, hb⟩ := h
  rcases h with ⟨A, n, c, rs, fs, rfl, hF, hn, hs, ha, hS⟩ | ⟨rfl, hS⟩
  · exact ⟨gs, A, n, c, true, rfl, .inl ⟨hS, rfl⟩, ⟨fun _ => hS, fun _ => rfl⟩, .apart A n c rs fs hF hs (by omega) ha rfl, hb⟩
  · exact ⟨[], none, 0, 0, false, rfl, .inr ⟨hS, rfl⟩, ⟨fun h => (by cases h), fun h => absurd h hS⟩, .apart none 0 0 [] [] ⟨rfl, rfl, by omega, by decide, fun h => absurd h (by omega), fun i hi => absurd hi (by omega)⟩ ⟨fun i hi => absurd hi (by simp), fun i j _ hj => absurd hj (by simp)⟩ (by omega) (fun _ => rfl) rfl, hb⟩
set_option maxRecDepth 100000 in
theorem sepq_any {w : World} {r : DR} {d : Dmp} (h : DV w r d) (hm : r.fm ≤ 6) (hg : ∀ f ∈ d.y :: d.o :: d.fs, f.ws.length ≤ 1000) :
    Calls Tryz.prog 29 #[.agg #[.int .i64 r.y.at_, .slice r.y.A r.y.n r.y.c, .int .i64 r.o.at_, .slice r.o.A r.o.n r.o.c, .int .i64 r.size, .int .i64 r.mark, .slice r.F r.fm r.fc, .slice r.R r.rm r.rc, .slice r.H r.hm r.hc]] w (SepQ w (d.y :: d.o :: d.fs)) := (separate_any h hm hg).mono (fun _ _ q => sep_q q)
set_option maxRecDepth 100000 in
theorem objO_len {gs : List Frg} (hgs : ∀ f ∈ gs, f.ws.length ≤ 1000) {x k : Int} {ws : List Int} (h : objO gs x = some (k, ws)) : ws.length ≤ 1000 := by
  unfold objO at h
  split at h
  · cases h
  · next k2 ws2 ho =>
    split at h
    · injection h with h
      injection h with h1 h2
      subst h1 h2
      exact outO_len hgs ho
    · cases h
def LiP (w : World) (gs : List Frg) (roots : List Int) (e : Ending) (w' : World) : Prop :=
  ∃ gs' l, sepG gs gs' ∧ Rchd gs' roots l ∧ e = .returned (.int .i64 (szO l)) ∧ Below w.heap.size w w'

set_option maxRecDepth 100000 in
set_option maxRecDepth 100000 in
set_option maxHeartbeats 8000000 in
theorem live_any {w : World} {r : DR} {d : Dmp} (h : DV w r d) (hm : r.fm ≤ 6) (hgs0 : ∀ f ∈ d.y :: d.o :: d.fs, f.ws.length ≤ 1000) (hrm : r.rm ≤ 1000) :
    Calls Tryz.prog 19 #[.agg #[.int .i64 r.y.at_, .slice r.y.A r.y.n r.y.c, .int .i64 r.o.at_, .slice r.o.A r.o.n r.o.c, .int .i64 r.size, .int .i64 r.mark, .slice r.F r.fm r.fc, .slice r.R r.rm r.rc, .slice r.H r.hm r.hc]] w (LiP w (d.y :: d.o :: d.fs) d.roots) := by
  obtain ⟨wa, hwa⟩ : ∃ wa, wa = w.alloc (.cells #[.int .i64 r.y.at_, .slice r.y.A r.y.n r.y.c, .int .i64 r.o.at_, .slice r.o.A r.o.n r.o.c, .int .i64 r.size, .int .i64 r.mark, .slice r.F r.fm r.fc, .slice r.R r.rm r.rc, .slice r.H r.hm r.hc] 28) := ⟨_, rfl⟩
  have hba : Below w.heap.size w wa := by rw [hwa]; exact (Below.refl _ w).alloc (Nat.le_refl _) _
  have bxa : Bx wa w.heap.size r := ⟨by rw [hwa]; exact heap_alloc_new w _⟩
  have hS := Lib.hid (sepq_any (h.below hba) hm hgs0)
  refine (callsIn_wide (n := 3)).1 ?_
  refine callsIn_of_wp_marks Tryz.func19 rfl trivial ?_ rfl
  simp only [Tryz.ntmps19, List.size_toArray, List.length_cons, List.length_nil, Nat.reduceAdd, Nat.reduceSub, Array.replicate_succ, Array.replicate_zero, List.push_toArray, List.append_toArray, List.nil_append, List.cons_append]
  gi_wp2_with (first | ((try refine ⟨trivial, ?_⟩); gi_at_call 29; rw [← hwa]; refine (callsIn_wide.2 hS.out).mono ?_; rintro e w1 ⟨gs, A1, n1, c1, ok, rfl, hsg, hok, hM, hb1⟩; have bx1 := bxa.below hb1 bxa.lt; have q7 := (bx1.below ((Below.refl _ w1).alloc (Nat.le_refl _) (.cells #[.int .i64 0] 3)) bx1.lt).c7) | ((try refine ⟨trivial, ?_⟩); gi_at_call 46; refine (callsIn_wide.2 (reached_any 74 (.slice A1 n1 c1) r.R r.rm r.rc)).mono ?_; rintro e w' ⟨rfl, rfl⟩))
  clear hS hwa
  obtain ⟨W0, hW0⟩ : ∃ W0, W0 = ((w1.alloc (.cells #[.int .i64 0] 3)).alloc (.cells #[.iface 74 (.slice A1 n1 c1)] 65)).alloc (.cells #[.slice r.R r.rm r.rc] 22) := ⟨_, rfl⟩
  have hB0 : Below w1.heap.size w1 W0 := by
    rw [hW0]
    exact (((Below.refl _ w1).alloc (Nat.le_refl _) _).alloc (by simp) _).alloc (by simp; omega) _
  have hs0 : W0.heap.size = w1.heap.size + 3 := by rw [hW0]; simp
  have k1 : Boxed W0 w1.heap.size 3 (.int .i64 0) := by
    unfold Boxed
    rw [hW0, Below.heap_alloc _ _ _ (by simp; omega), Below.heap_alloc _ _ _ (by simp)]
    exact heap_alloc_new w1 _
  have k2 : Boxed W0 (w1.heap.size + 1) 65 (.iface 74 (.slice A1 n1 c1)) := by
    unfold Boxed
    rw [hW0, Below.heap_alloc _ _ _ (by simp)]
    have := heap_alloc_new (w1.alloc (.cells #[.int .i64 0] 3)) (.cells #[.iface 74 (.slice A1 n1 c1)] 65)
    simpa using this
  have k3 : Boxed W0 (w1.heap.size + 2) 22 (.slice r.R r.rm r.rc) := by
    unfold Boxed
    rw [hW0]
    have := heap_alloc_new ((w1.alloc (.cells #[.int .i64 0] 3)).alloc (.cells #[.iface 74 (.slice A1 n1 c1)] 65)) (.cells #[.slice r.R r.rm r.rc] 22)
    simpa using this
  have hKB : ∀ V, Kpk (fun k o => BdK w1.heap.size k o ∨ W0.heap.size ≤ k) W0 V → Below w1.heap.size W0 V := fun V hV => hV.toBelow (by omega) (fun k o hk e => by
    rcases e with (e | e) | e
    · omega
    · omega
    · omega)
  rw [show w1.heap.size + 1 + 1 = w1.heap.size + 2 by omega]
  rw [← hW0]
  obtain ⟨hgl', hgsub⟩ := sepG_sub hsg
  have hgs : ∀ f ∈ gs, f.ws.length ≤ 1000 := fun f hf => hgs0 f (hgsub f hf)
  have hgl : gs.length ≤ 8 := by
    have h1 := h.fs.lef
    simp only [List.length_cons] at hgl'
    omega
  have hz := (h.roots.below hba).below hb1
  have hseq := reached_seq 2 (by omega) (w1.heap.size + 1) (w1.heap.size + 2) (w1.heap.size + 3) (BdK w1.heap.size) (bdK_hK _) gs (.iface 74 (.slice A1 n1 c1)) r.R r.rm r.rc d.roots hgs hgl hrm W0 k2 k3 (fun V hV => hM.below (hB0.trans (hKB V hV))) (hz.below hB0) (by omega) (fun o e => by
    rcases e with e | e
    · omega
    · omega)
  have hBE : Hid (∀ V, Below w1.heap.size w1 V → Below w.heap.size w V) := Lib.hid (fun V hV => (hba.trans (hb1.mono hba.size)).trans (hV.mono (Nat.le_trans hba.size hb1.size)))
  clear hW0 hba hb1 bxa bx1 q7 hM hz h
  refine range_m rfl (by omega) (gf := 78) (lb := #[.pointer (some ⟨w1.heap.size + 2, 0, none⟩), .pointer (some ⟨w1.heap.size + 1, 0, none⟩)]) rfl trivial (enters_of Tryz.func78 (by kernel_rfl) rfl)
    hseq (fun r h => by rcases h with ⟨_, _, e⟩ | ⟨_, e⟩ <;> cases e) (fun d h => by rcases h with ⟨_, _, e⟩ | ⟨_, e⟩ <;> cases e) (fun h k => ⟨h.1.trans k.1, h.2.trans k.2⟩)
    (fun V l r' o' hl hr => ⟨Kpk.grown (grownBy_putObj' V l o') (fun k o e ho => by
      cases e
      rw [hr] at ho
      cases ho
      exact .inr ⟨by omega, .inr ⟨_, rfl⟩⟩), KU.grown (grownBy_putObj' V l o') (fun k p x e hp he => by
      cases e
      obtain ⟨cs, t, f, h1, _⟩ := cell_obj hp
      rw [he, hr] at h1
      cases h1)⟩)
    (Below.refl _ _) (fun _ => rfl)
    (fun pre W => Boxed W w1.heap.size 3 (.int .i64 (szO pre)) ∧ (w1.heap.size + 3 ≤ W.heap.size ∧ Below w1.heap.size w1 W))
    (fun _ _ _ => False)
    (AbM.and (fun pre V V' row hs hg hr => boxed_bk (by decide) hs hg hr) (AbM.and (fun pre V V' row hs hg hr => Nat.le_trans hs hg.size) (below_grown (by omega) (Nat.le_refl _))))
    (fun c s V V' row hs hg hr => hs)
    ⟨k1, by omega, hB0⟩
    (fun pre x a' V => ∃ B, w1.heap.size + 3 ≤ B ∧ V.heap[B]? = some (.cells #[.int .i64 x.k, .slice x.A x.n x.c] 93 (0, 0)) ∧ a' = { tmps := #[.agg #[.int .i64 r.y.at_, .slice r.y.A r.y.n r.y.c, .int .i64 r.o.at_, .slice r.o.A r.o.n r.o.c, .int .i64 r.size, .int .i64 r.mark, .slice r.F r.fm r.fc, .slice r.R r.rm r.rc, .slice r.H r.hm r.hc], .pointer (some ⟨w.heap.size, 0, none⟩), .int .i64 0, .slice A1 n1 c1, .bool ok, .pointer (some ⟨w1.heap.size, 0, none⟩), undef, .pointer (some ⟨B, 0, none⟩), .tuple #[.slice A1 n1 c1, .bool ok], .agg #[.int .i64 r.y.at_, .slice r.y.A r.y.n r.y.c, .int .i64 r.o.at_, .slice r.o.A r.o.n r.o.c, .int .i64 r.size, .int .i64 r.mark, .slice r.F r.fm r.fc, .slice r.R r.rm r.rc, .slice r.H r.hm r.hc], .tuple #[.slice A1 n1 c1, .bool ok], .slice A1 n1 c1, .bool ok, .slice A1 n1 c1, .iface 74 (.slice A1 n1 c1), .pointer (some ⟨w.heap.size, 7, none⟩), .slice r.R r.rm r.rc, .func (.func 78) #[] #[.pointer (some ⟨w1.heap.size + 2, 0, none⟩), .pointer (some ⟨w1.heap.size + 1, 0, none⟩)], .int .u64 x.x, .agg #[.int .i64 x.k, .slice x.A x.n x.c], undef, undef, undef, undef, undef], defers := [] })
    (fun pre x a' s V V' row hs hg hr => by
      obtain ⟨B, h1, h2, h3⟩ := hs
      exact ⟨B, h1, (hg.block _ (Array.getElem?_eq_some_iff.1 h2).1 (fun e => by
        obtain ⟨_, o, ho, hb⟩ := hr _ e.symm
        rw [h2] at ho
        cases ho
        exact absurd (bkR_cells hb) (by decide))).trans h2, h3⟩) ?assign ?body ?done ?stop
  case assign =>
    intro l pre x V K hi hR hK
    unfold encO
    gi_wp2
    have hb : Below V.heap.size V (V.alloc (.cells #[.int .i64 x.k, .slice x.A x.n x.c] 93)) := (Below.refl _ V).alloc (Nat.le_refl _) _
    have hV := hi.2.2.size
    have hV3 := hi.2.1
    exact hK _ _ (KpM.below hb) ⟨Kpk.below hb, KU.below hb⟩ ⟨hi.1.alloc _, Nat.le_trans hV3 hb.size, hi.2.2.trans (hb.mono hV)⟩ ⟨V.heap.size, hV3, heap_alloc_new V _, rfl⟩
  case body =>
    rintro l pre x a' V ⟨hbx, hV3, hbV⟩ ⟨B, hB1, hB2, rfl⟩ hR
    have hpl := hR.len hgs
    rw [List.length_append, List.length_singleton] at hpl
    have hall : ∀ p ∈ pre ++ [x], p.n ≤ 1000 := fun p hp => by
      obtain ⟨_, ho, hn⟩ := hR.2 p hp
      rw [hn]
      exact objO_len hgs ho
    have hxn := hall x (by simp)
    obtain ⟨hs1, hs2⟩ := szO_bound pre (fun p hp => hall p (by simp [hp]))
    have HSZ : Hid (∀ w, Calls Tryz.prog 47 #[.agg #[.int .i64 x.k, .slice x.A x.n x.c]] w fun e w' => e = .returned (.int .i64 (szI x)) ∧ Below w.heap.size w w') := Lib.hid (fun w => osize_any (w := w) x.k x.A x.n x.c hxn)
    have hsx : 0 ≤ szI x ∧ szI x ≤ 1001 := by unfold szI; split <;> omega
    have q0 : V.cell? ⟨B, 0, none⟩ = some (.int .i64 x.k) := (cell_of_row V B 0 _ _ (0, 0) hB2).trans rfl
    have q1 : V.cell? ⟨B, 1, none⟩ = some (.slice x.A x.n x.c) := (cell_of_row V B 1 _ _ (0, 0) hB2).trans rfl
    have hc := hbx.cell
    have hf := hbx.frozen
    have hmx : Tryz.prog.follows .mixedOrders = true := by kernel_rfl
    have H9 : Hid (∀ w9, Below V.drew.heap.size V.drew w9 → Boxed w9 w1.heap.size 3 (.int .i64 (szO pre))) := Lib.hid (fun w9 hb => (((Below.refl _ V).drew.trans hb).block _ (Boxed.lt hbx)).trans hbx)
    have FIN : Hid (∀ w9, Below V.drew.heap.size V.drew w9 → postM MiR W0.heap.size (fun W W' => Kpk (BdK w1.heap.size) W W' ∧ KU W W') (fun pre W => Boxed W w1.heap.size 3 (.int .i64 (szO pre)) ∧ (w1.heap.size + 3 ≤ W.heap.size ∧ Below w1.heap.size w1 W)) (fun _ _ _ => False) (pre ++ [x]) V .normal { tmps := #[], defers := [] } (w9.setCell ⟨w1.heap.size, 0, none⟩ (.int .i64 (IntKind.i64.wrap (szO pre + szI x))))) := Lib.hid (fun w9 hb9 => by
      rw [show IntKind.i64.wrap (szO pre + szI x) = szO pre + szI x by rw [IntKind.wrap_i64]; omega]
      have hb : Below V.heap.size V w9 := (Below.refl _ V).drew.trans hb9
      have hbx9 := H9.out w9 hb9
      have hkk : Kpk (fun k o => k = w1.heap.size) V (w9.setCell ⟨w1.heap.size, 0, none⟩ (.int .i64 (szO pre + szI x))) :=
        (Kpk.below hb).trans (Kpk.chg (C := fun k => k = w1.heap.size) ((Chg.refl (fun k => k = w1.heap.size) w9).setCell (p := ⟨w1.heap.size, 0, none⟩) (.inl rfl) _) (fun k o _ e => e))
      have hku : KU V (w9.setCell ⟨w1.heap.size, 0, none⟩ (.int .i64 (szO pre + szI x))) := (KU.below hb).trans (KU.set hbx9.cell (fun x e => by cases e) _)
      refine ⟨⟨hkk.size, fun k o hBk hk hbk => hkk.block k o hk (fun e => by omega)⟩, ⟨hkk.mono (fun k o _ e => .inl e), hku⟩, ?_, Nat.le_trans hV3 hkk.size, hbV.trans (hkk.toBelow (by omega) (fun k o hk e => by omega))⟩
      rw [szO_snoc]
      exact hbx9.set _)
    clear hR hall hbV hxn
    generalize szO pre = sp at *
    generalize szI x = sx at *
    obtain ⟨hx1, hx2⟩ := hsx
    have hsp : sp ≤ 20000000 := by omega
    clear hpl hs2
    gi_wp2
    refine wpIn_region_any (by assumption) ?_
    change wpAnyIn _ _ _ _ _ _ _ _ _ (World.drew _)
    refine wpAnyIn_ready (rs := [0, 1]) (by kernel_rfl) (by simp) ?_
    refine AllReadyIn.cons rfl (fun K hK => ?_) ?_
    · go_simp
      refine hK _ _ ?_
      clear hK K
      refine wpAnyIn_ready (rs := [1]) (by kernel_rfl) (by simp) ?_
      refine AllReadyIn.cons rfl (fun K hK => ?_) ?_
      · go_simp
        refine hK _ _ ?_
        clear hK K
        refine wpAnyIn_ready (rs := [2]) (by kernel_rfl) (by simp) ?_
        refine AllReadyIn.cons rfl (fun K hK => ?_) ?_
        · go_simp
          gi_wp2_with ((try refine ⟨trivial, ?_⟩); gi_at_call 47; refine (CallsIn.inRound l (callsIn_wide.2 (HSZ.out _))).mono ?_; rintro e w9 ⟨rfl, hb9⟩; have hbx9 := H9.out w9 hb9; have hc9 := hbx9.cell; have hf9 := hbx9.frozen; clear hbx9; replace hb9 := Lib.hid hb9)
          first | (refine hK _ _ ?_; clear hK K) | skip
          refine wpAnyIn_ready (rs := [3]) (by kernel_rfl) (by simp) ?_
          refine AllReadyIn.cons rfl (fun K hK => ?_) ?_
          · go_simp
            refine hK _ _ ?_
            clear hK K
            refine wpAnyIn_ready (rs := [4]) (by kernel_rfl) (by simp) ?_
            refine AllReadyIn.cons rfl (fun K hK => ?_) ?_
            · go_simp
              refine hK _ _ ?_
              clear hK K
              refine wpAnyIn_done (by kernel_rfl) ?_ _
              exact FIN.out _ hb9.out
            exact AllReadyIn.nil
          exact AllReadyIn.nil
        exact AllReadyIn.nil
      exact AllReadyIn.nil
    refine AllReadyIn.cons rfl (fun K hK => ?_) ?_
    · go_simp
      refine hK _ _ ?_
      clear hK K
      refine wpAnyIn_ready (rs := [0, 2]) (by kernel_rfl) (by simp) ?_
      refine AllReadyIn.cons rfl (fun K hK => ?_) ?_
      · go_simp
        refine hK _ _ ?_
        clear hK K
        refine wpAnyIn_ready (rs := [2]) (by kernel_rfl) (by simp) ?_
        refine AllReadyIn.cons rfl (fun K hK => ?_) ?_
        · go_simp
          gi_wp2_with ((try refine ⟨trivial, ?_⟩); gi_at_call 47; refine (CallsIn.inRound l (callsIn_wide.2 (HSZ.out _))).mono ?_; rintro e w9 ⟨rfl, hb9⟩; have hbx9 := H9.out w9 hb9; have hc9 := hbx9.cell; have hf9 := hbx9.frozen; clear hbx9; replace hb9 := Lib.hid hb9)
          first | (refine hK _ _ ?_; clear hK K) | skip
          refine wpAnyIn_ready (rs := [3]) (by kernel_rfl) (by simp) ?_
          refine AllReadyIn.cons rfl (fun K hK => ?_) ?_
          · go_simp
            refine hK _ _ ?_
            clear hK K
            refine wpAnyIn_ready (rs := [4]) (by kernel_rfl) (by simp) ?_
            refine AllReadyIn.cons rfl (fun K hK => ?_) ?_
            · go_simp
              refine hK _ _ ?_
              clear hK K
              refine wpAnyIn_done (by kernel_rfl) ?_ _
              exact FIN.out _ hb9.out
            exact AllReadyIn.nil
          exact AllReadyIn.nil
        exact AllReadyIn.nil
      refine AllReadyIn.cons rfl (fun K hK => ?_) ?_
      · go_simp
        gi_wp2_with ((try refine ⟨trivial, ?_⟩); gi_at_call 47; refine (CallsIn.inRound l (callsIn_wide.2 (HSZ.out _))).mono ?_; rintro e w9 ⟨rfl, hb9⟩; have hbx9 := H9.out w9 hb9; have hc9 := hbx9.cell; have hf9 := hbx9.frozen; clear hbx9; replace hb9 := Lib.hid hb9)
        first | (refine hK _ _ ?_; clear hK K) | skip
        refine wpAnyIn_ready (rs := [0]) (by kernel_rfl) (by simp) ?_
        refine AllReadyIn.cons rfl (fun K hK => ?_) ?_
        · go_simp
          refine hK _ _ ?_
          clear hK K
          refine wpAnyIn_ready (rs := [3]) (by kernel_rfl) (by simp) ?_
          refine AllReadyIn.cons rfl (fun K hK => ?_) ?_
          · go_simp
            refine hK _ _ ?_
            clear hK K
            refine wpAnyIn_ready (rs := [4]) (by kernel_rfl) (by simp) ?_
            refine AllReadyIn.cons rfl (fun K hK => ?_) ?_
            · go_simp
              refine hK _ _ ?_
              clear hK K
              refine wpAnyIn_done (by kernel_rfl) ?_ _
              exact FIN.out _ hb9.out
            exact AllReadyIn.nil
          exact AllReadyIn.nil
        exact AllReadyIn.nil
      exact AllReadyIn.nil
    exact AllReadyIn.nil
  case done =>
    rintro D' xs V hD hR ⟨hbx, hV3, hbV⟩ hK
    have hc := hbx.cell
    gi_wp2
    refine ⟨by simp, .inl ⟨_, _, rfl, run_takeDeferred hK, ?_⟩⟩
    exact ⟨_, results_tmp rfl _ _ _, gs, xs, hsg, hR, rfl, hBE.out _ (hbV.trans (belowK_b (w := w1) (Nat.le_refl _) _ D' _ _ (by omega) hK rfl rfl))⟩
  case stop =>
    rintro D c pre V _ _ h _
    exact h.elim
end Go.Proofs.YtejmmjedognaaaaGreat

namespace Go.Proofs.YtejmmjedognaaaaGreat
open Go.RowKit Go.Shelf
open St

open Classical in
/-- The name of the first condition that does not hold. -/
noncomputable def whyO (gs : List Frg) (S : List Slt) (d : Dmp) : ByteArray :=
  if ¬ (Sepa gs ∧ msB d = true) then (⟨#[114, 101, 103, 105, 111, 110, 115]⟩ : ByteArray) else if ¬ RtsOk gs S d.roots then ⟨#[114, 111, 111, 116, 115]⟩ else if clR d.o = false then ⟨#[111, 108, 100]⟩ else if ¬ HdOk gs S d.roots d.hs then ⟨#[104, 97, 110, 100, 108, 101, 115]⟩ else ⟨#[]⟩
set_option maxRecDepth 100000 in
theorem why_reg {gs : List Frg} {S : List Slt} {d : Dmp} (h : ¬ (Sepa gs ∧ msB d = true)) : whyO gs S d = ⟨#[114, 101, 103, 105, 111, 110, 115]⟩ := by unfold whyO; rw [if_pos h]
set_option maxRecDepth 100000 in
theorem why_roo {gs : List Frg} {S : List Slt} {d : Dmp} (h : Sepa gs ∧ msB d = true) (h2 : ¬ RtsOk gs S d.roots) : whyO gs S d = ⟨#[114, 111, 111, 116, 115]⟩ := by unfold whyO; rw [if_neg (fun e => e h), if_pos h2]
set_option maxRecDepth 100000 in
theorem why_old {gs : List Frg} {S : List Slt} {d : Dmp} (h : Sepa gs ∧ msB d = true) (h2 : RtsOk gs S d.roots) (h3 : clR d.o = false) : whyO gs S d = ⟨#[111, 108, 100]⟩ := by unfold whyO; rw [if_neg (fun e => e h), if_neg (fun e => e h2), if_pos h3]
set_option maxRecDepth 100000 in
theorem why_han {gs : List Frg} {S : List Slt} {d : Dmp} (h : Sepa gs ∧ msB d = true) (h2 : RtsOk gs S d.roots) (h3 : clR d.o = true) (h4 : ¬ HdOk gs S d.roots d.hs) : whyO gs S d = ⟨#[104, 97, 110, 100, 108, 101, 115]⟩ := by unfold whyO; rw [if_neg (fun e => e h), if_neg (fun e => e h2), if_neg (by rw [h3]; decide), if_pos h4]
set_option maxRecDepth 100000 in
theorem why_no {gs : List Frg} {S : List Slt} {d : Dmp} (h : Sepa gs ∧ msB d = true) (h2 : RtsOk gs S d.roots) (h3 : clR d.o = true) (h4 : HdOk gs S d.roots d.hs) : whyO gs S d = ⟨#[]⟩ := by unfold whyO; rw [if_neg (fun e => e h), if_neg (fun e => e h2), if_neg (by rw [h3]; decide), if_neg (fun e => e h4)]
set_option maxRecDepth 100000 in
set_option maxRecDepth 100000 in
set_option maxHeartbeats 8000000 in
theorem why_any {w : World} {r : DR} {d : Dmp} (h : DV w r d) (hm : r.fm ≤ 6) (hgs0 : ∀ f ∈ d.y :: d.o :: d.fs, f.ws.length ≤ 1000) (hrm : r.rm ≤ 1000) (hhm : r.hm ≤ 1000) {SA : Option Addr} {sm sc : Nat} {S : List Slt} (hS : SLs w SA sm sc S) (hsm : sm ≤ 1000) :
    Calls Tryz.prog 12 #[.agg #[.int .i64 r.y.at_, .slice r.y.A r.y.n r.y.c, .int .i64 r.o.at_, .slice r.o.A r.o.n r.o.c, .int .i64 r.size, .int .i64 r.mark, .slice r.F r.fm r.fc, .slice r.R r.rm r.rc, .slice r.H r.hm r.hc], .slice SA sm sc] w fun e w' => e = .returned (.string (whyO (d.y :: d.o :: d.fs) S d)) ∧ Below w.heap.size w w' := by
  obtain ⟨wa, hwa⟩ : ∃ wa, wa = w.alloc (.cells #[.int .i64 r.y.at_, .slice r.y.A r.y.n r.y.c, .int .i64 r.o.at_, .slice r.o.A r.o.n r.o.c, .int .i64 r.size, .int .i64 r.mark, .slice r.F r.fm r.fc, .slice r.R r.rm r.rc, .slice r.H r.hm r.hc] 28) := ⟨_, rfl⟩
  have hba : Below w.heap.size w wa := by rw [hwa]; exact (Below.refl _ w).alloc (Nat.le_refl _) _
  have bx : Bx wa w.heap.size r := ⟨by rw [hwa]; exact heap_alloc_new w _⟩
  obtain ⟨gs, hgs⟩ : ∃ gs, gs = d.y :: d.o :: d.fs := ⟨_, rfl⟩
  have hgl : gs.length ≤ 8 := by
    have h1 := h.fs.lef
    rw [hgs]
    simp only [List.length_cons]
    omega
  have hon : r.o.n ≤ 1000 := by rw [← h.o.ws.len]; exact hgs0 d.o (by simp)
  have HD : Hid (∀ w', Below wa.heap.size wa w' → DV w' r d ∧ SLs w' SA sm sc S ∧ Bx w' w.heap.size r) := Lib.hid (fun w' hb => ⟨(h.below hba).below hb, (hS.below hba).below hb, bx.below hb bx.lt⟩)
  have HE : Hid (∀ w', Below wa.heap.size wa w' → Below w.heap.size w w') := Lib.hid (fun w' hb => hba.trans (hb.mono hba.size))
  have HSep := Lib.hid (sepq_any (h.below hba) hm hgs0)
  rw [← hgs] at HSep hgs0 ⊢
  have hk0 : Hid (Below wa.heap.size wa wa) := Lib.hid (Below.refl _ _)
  have q0 := bx.c0; have q1 := bx.c1; have q2 := bx.c2; have q3 := bx.c3; have q4 := bx.c4; have q5 := bx.c5; have q6 := bx.c6; have q7 := bx.c7; have q8 := bx.c8
  clear bx h hS hba hgs
  cases hms : msB d
  · go_enter Tryz.func12, Tryz.ntmps12
    go_upto_region 1 with fail
    rw [← hwa]
    clear hwa
    go_wp2_with (first | (go_at_call 29; (with_reducible refine (HSep.out).mono ?_); rintro e w1 ⟨gs1, A1, n1, c1, ok, rfl, hsg, hok, hM1, hb1⟩; have hk1 := Lib.hid (hk0.out.trans (hb1.mono hk0.out.size)); have hj1 := Lib.hid (Below.refl w1.heap.size w1); clear hb1; clear q0 q1 q2 q3 q4 q5 q6 q7 q8; have bx := (HD.out _ hk1.out).2.2; have q0 := bx.c0; have q1 := bx.c1; have q2 := bx.c2; have q3 := bx.c3; have q4 := bx.c4; have q5 := bx.c5; have q6 := bx.c6; have q7 := bx.c7; have q8 := bx.c8; clear bx; replace hM1 := Lib.hid hM1; replace hok := Lib.hid hok; replace hsg := Lib.hid hsg; (cases ok)) | (go_at_call 30; (with_reducible refine (measured_any (HD.out _ hk1.out).1).mono ?_); rintro e w2 ⟨rfl, hb2⟩; have hk2 := Lib.hid (hk1.out.trans (hb2.mono hk1.out.size)); have hj2 := Lib.hid (hj1.out.trans (hb2.mono hj1.out.size)); clear hb2; clear q0 q1 q2 q3 q4 q5 q6 q7 q8; have bx := (HD.out _ hk2.out).2.2; have q0 := bx.c0; have q1 := bx.c1; have q2 := bx.c2; have q3 := bx.c3; have q4 := bx.c4; have q5 := bx.c5; have q6 := bx.c6; have q7 := bx.c7; have q8 := bx.c8; clear bx; rw [hms]))
    all_goals
      go_ret
      exact ⟨by rw [why_reg (fun e => by rw [hms] at e; exact absurd e.2 (by decide))]; rfl, HE.out _ (by first | exact hk1.out | exact hk2.out)⟩
  · cases hcl : clR d.o
    · go_enter Tryz.func12, Tryz.ntmps12
      go_upto_region 1 with fail
      rw [← hwa]
      clear hwa
      go_wp2_with (first | (go_at_call 29; (with_reducible refine (HSep.out).mono ?_); rintro e w1 ⟨gs1, A1, n1, c1, ok, rfl, hsg, hok, hM1, hb1⟩; have hk1 := Lib.hid (hk0.out.trans (hb1.mono hk0.out.size)); have hj1 := Lib.hid (Below.refl w1.heap.size w1); clear hb1; clear q0 q1 q2 q3 q4 q5 q6 q7 q8; have bx := (HD.out _ hk1.out).2.2; have q0 := bx.c0; have q1 := bx.c1; have q2 := bx.c2; have q3 := bx.c3; have q4 := bx.c4; have q5 := bx.c5; have q6 := bx.c6; have q7 := bx.c7; have q8 := bx.c8; clear bx; replace hM1 := Lib.hid hM1; replace hok := Lib.hid hok; replace hsg := Lib.hid hsg; (cases ok)) | (go_at_call 30; (with_reducible refine (measured_any (HD.out _ hk1.out).1).mono ?_); rintro e w2 ⟨rfl, hb2⟩; have hk2 := Lib.hid (hk1.out.trans (hb2.mono hk1.out.size)); have hj2 := Lib.hid (hj1.out.trans (hb2.mono hj1.out.size)); clear hb2; clear q0 q1 q2 q3 q4 q5 q6 q7 q8; have bx := (HD.out _ hk2.out).2.2; have q0 := bx.c0; have q1 := bx.c1; have q2 := bx.c2; have q3 := bx.c3; have q4 := bx.c4; have q5 := bx.c5; have q6 := bx.c6; have q7 := bx.c7; have q8 := bx.c8; clear bx; rw [hms]) | (obtain ⟨HGE, HSP⟩ : gs1 = gs ∧ Hid (Sepa gs) := (by (rcases hsg.out with ⟨h1, e⟩ | ⟨h1, _⟩; exact ⟨e, Lib.hid h1⟩; exact absurd (hok.out.1 (by first | exact trivial | rfl)) h1)); subst HGE; go_at_call 31; (with_reducible refine (readable_any ⟨hM1.out.below hj2.out, (HD.out _ hk2.out).2.1, hgs0, hsm⟩ (HD.out _ hk2.out).1.roots hrm).mono ?_); rintro e w3 ⟨b3, rfl, hrt, hb3⟩; have hk3 := Lib.hid (hk2.out.trans (hb3.mono hk2.out.size)); have hj3 := Lib.hid (hj2.out.trans (hb3.mono hj2.out.size)); clear hb3; clear q0 q1 q2 q3 q4 q5 q6 q7 q8; have bx := (HD.out _ hk3.out).2.2; have q0 := bx.c0; have q1 := bx.c1; have q2 := bx.c2; have q3 := bx.c3; have q4 := bx.c4; have q5 := bx.c5; have q6 := bx.c6; have q7 := bx.c7; have q8 := bx.c8; clear bx; replace hrt := Lib.hid hrt; (cases b3)) | (go_at_call 32; (with_reducible refine (closed_any (HD.out _ hk3.out).1.o hon).mono ?_); rintro e w4 ⟨rfl, hb4⟩; have hk4 := Lib.hid (hk3.out.trans (hb4.mono hk3.out.size)); have hj4 := Lib.hid (hj3.out.trans (hb4.mono hj3.out.size)); clear hb4; clear q0 q1 q2 q3 q4 q5 q6 q7 q8; have bx := (HD.out _ hk4.out).2.2; have q0 := bx.c0; have q1 := bx.c1; have q2 := bx.c2; have q3 := bx.c3; have q4 := bx.c4; have q5 := bx.c5; have q6 := bx.c6; have q7 := bx.c7; have q8 := bx.c8; clear bx; rw [hcl]))
      · go_ret
        exact ⟨by rw [why_reg (fun e => absurd (hok.out.2 e.1) (by decide))]; rfl, HE.out _ hk1.out⟩
      · go_ret
        exact ⟨by rw [why_roo ⟨HSP.out, hms⟩ (fun e => absurd (hrt.out.2 e) (by decide))]; rfl, HE.out _ hk3.out⟩
      · go_ret
        exact ⟨by rw [why_old ⟨HSP.out, hms⟩ (hrt.out.1 (by first | exact trivial | rfl)) hcl]; rfl, HE.out _ hk4.out⟩
    · go_enter Tryz.func12, Tryz.ntmps12
      go_upto_region 1 with fail
      rw [← hwa]
      clear hwa
      go_wp2_with (first | (go_at_call 29; (with_reducible refine (HSep.out).mono ?_); rintro e w1 ⟨gs1, A1, n1, c1, ok, rfl, hsg, hok, hM1, hb1⟩; have hk1 := Lib.hid (hk0.out.trans (hb1.mono hk0.out.size)); have hj1 := Lib.hid (Below.refl w1.heap.size w1); clear hb1; clear q0 q1 q2 q3 q4 q5 q6 q7 q8; have bx := (HD.out _ hk1.out).2.2; have q0 := bx.c0; have q1 := bx.c1; have q2 := bx.c2; have q3 := bx.c3; have q4 := bx.c4; have q5 := bx.c5; have q6 := bx.c6; have q7 := bx.c7; have q8 := bx.c8; clear bx; replace hM1 := Lib.hid hM1; replace hok := Lib.hid hok; replace hsg := Lib.hid hsg; (cases ok)) | (go_at_call 30; (with_reducible refine (measured_any (HD.out _ hk1.out).1).mono ?_); rintro e w2 ⟨rfl, hb2⟩; have hk2 := Lib.hid (hk1.out.trans (hb2.mono hk1.out.size)); have hj2 := Lib.hid (hj1.out.trans (hb2.mono hj1.out.size)); clear hb2; clear q0 q1 q2 q3 q4 q5 q6 q7 q8; have bx := (HD.out _ hk2.out).2.2; have q0 := bx.c0; have q1 := bx.c1; have q2 := bx.c2; have q3 := bx.c3; have q4 := bx.c4; have q5 := bx.c5; have q6 := bx.c6; have q7 := bx.c7; have q8 := bx.c8; clear bx; rw [hms]) | (obtain ⟨HGE, HSP⟩ : gs1 = gs ∧ Hid (Sepa gs) := (by (rcases hsg.out with ⟨h1, e⟩ | ⟨h1, _⟩; exact ⟨e, Lib.hid h1⟩; exact absurd (hok.out.1 (by first | exact trivial | rfl)) h1)); subst HGE; go_at_call 31; (with_reducible refine (readable_any ⟨hM1.out.below hj2.out, (HD.out _ hk2.out).2.1, hgs0, hsm⟩ (HD.out _ hk2.out).1.roots hrm).mono ?_); rintro e w3 ⟨b3, rfl, hrt, hb3⟩; have hk3 := Lib.hid (hk2.out.trans (hb3.mono hk2.out.size)); have hj3 := Lib.hid (hj2.out.trans (hb3.mono hj2.out.size)); clear hb3; clear q0 q1 q2 q3 q4 q5 q6 q7 q8; have bx := (HD.out _ hk3.out).2.2; have q0 := bx.c0; have q1 := bx.c1; have q2 := bx.c2; have q3 := bx.c3; have q4 := bx.c4; have q5 := bx.c5; have q6 := bx.c6; have q7 := bx.c7; have q8 := bx.c8; clear bx; replace hrt := Lib.hid hrt; (cases b3)) | (go_at_call 32; (with_reducible refine (closed_any (HD.out _ hk3.out).1.o hon).mono ?_); rintro e w4 ⟨rfl, hb4⟩; have hk4 := Lib.hid (hk3.out.trans (hb4.mono hk3.out.size)); have hj4 := Lib.hid (hj3.out.trans (hb4.mono hj3.out.size)); clear hb4; clear q0 q1 q2 q3 q4 q5 q6 q7 q8; have bx := (HD.out _ hk4.out).2.2; have q0 := bx.c0; have q1 := bx.c1; have q2 := bx.c2; have q3 := bx.c3; have q4 := bx.c4; have q5 := bx.c5; have q6 := bx.c6; have q7 := bx.c7; have q8 := bx.c8; clear bx; rw [hcl]) | (go_at_call 33; (with_reducible refine (handled_any (hM1.out.below hj4.out) hgs0 hgl (HD.out _ hk4.out).2.1 hsm (HD.out _ hk4.out).1 hrm hhm).mono ?_); rintro e w5 ⟨b5, rfl, hdl, hb5⟩; have hk5 := Lib.hid (hk4.out.trans (hb5.mono hk4.out.size)); have hj5 := Lib.hid (hj4.out.trans (hb5.mono hj4.out.size)); clear hb5; clear q0 q1 q2 q3 q4 q5 q6 q7 q8; have bx := (HD.out _ hk5.out).2.2; have q0 := bx.c0; have q1 := bx.c1; have q2 := bx.c2; have q3 := bx.c3; have q4 := bx.c4; have q5 := bx.c5; have q6 := bx.c6; have q7 := bx.c7; have q8 := bx.c8; clear bx; replace hdl := Lib.hid hdl; (cases b5)))
      · go_ret
        exact ⟨by rw [why_reg (fun e => absurd (hok.out.2 e.1) (by decide))]; rfl, HE.out _ hk1.out⟩
      · go_ret
        exact ⟨by rw [why_roo ⟨HSP.out, hms⟩ (fun e => absurd (hrt.out.2 e) (by decide))]; rfl, HE.out _ hk3.out⟩
      · go_ret
        exact ⟨by rw [why_han ⟨HSP.out, hms⟩ (hrt.out.1 (by first | exact trivial | rfl)) hcl (fun e => absurd (hdl.out.2 e) (by decide))]; rfl, HE.out _ hk5.out⟩
      · go_ret
        exact ⟨by rw [why_no ⟨HSP.out, hms⟩ (hrt.out.1 (by first | exact trivial | rfl)) hcl (hdl.out.1 (by first | exact trivial | rfl))]; rfl, HE.out _ hk5.out⟩
end Go.Proofs.YtejmmjedognaaaaGreat
