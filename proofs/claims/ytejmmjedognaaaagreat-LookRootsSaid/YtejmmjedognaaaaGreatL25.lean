/-
  PACKAGE look: a whole dump: from.
-/
import Derived.Test.YtejmmjedognaaaaGreatL24
namespace Go.Proofs.YtejmmjedognaaaaGreat
open Go.RowKit Go.Shelf
open St
attribute [local go_sem] Oper.semAt_some

set_option maxRecDepth 100000 in
theorem nM (Mi : Obj → Prop) (h : ∀ o, ¬ Mi o) (o : Obj) (hb : Bk Mi o) : o.isCells = false := by
  rcases hb with ⟨r, rfl⟩ | ⟨d, rfl⟩ | hm
  · rfl
  · rfl
  · exact (h o hm).elim
set_option maxRecDepth 100000 in
theorem rng_cell {Mi : Obj → Prop} (h : ∀ o, ¬ Mi o) {B : Nat} {W : World} {row : Option Nat} (hr : ∀ r, row = some r → B ≤ r ∧ ∃ o : Obj, W.heap[r]? = some o ∧ Bk Mi o) : ∀ r, row = some r → ∃ o : Obj, W.heap[r]? = some o ∧ o.isCells = false := fun r e => by
  obtain ⟨_, o, ho, hb⟩ := hr r e
  exact ⟨o, ho, nM Mi h o hb⟩
set_option maxRecDepth 100000 in
theorem Zs.kept {q : IntKind} {w w' : World} {A : Option Addr} {n c : Nat} {zs : List Int} {row : Option Nat} (h : Zs q w A n c zs) (hg : w.grownBy w' row) (hr : ∀ r, row = Option.some r → ∃ o : Obj, w.heap[r]? = Option.some o ∧ o.isCells = false) : Zs q w' A n c zs := by
  refine ⟨h.len, h.nc, h.cm, h.wf, fun hn => ?_⟩
  obtain ⟨b, o, e, hlt, hc⟩ := h.el hn
  exact ⟨b, o, e, Nat.lt_of_lt_of_le hlt hg.size, fun j hj => cell_kept (hc j hj) hg hr⟩
set_option maxRecDepth 100000 in
theorem below_grown {B : Nat} {w0 : World} {β : Type} {M : Obj → Prop} {C : Nat} (hC : B ≤ C) (hB : B ≤ w0.heap.size) : AbM (β := β) M C (fun _ W => Below B w0 W) := fun s W W' row hs hg hr =>
  hs.grown hg (Nat.le_trans hB hs.size) (fun k e => by have := (hr k e).1; omega)
set_option maxRecDepth 100000 in
theorem AbM.and {β : Type} {M : Obj → Prop} {B : Nat} {I J : β → World → Prop} (h : AbM M B I) (g : AbM M B J) : AbM M B (fun s W => I s W ∧ J s W) := fun s W W' row hs hg hr => ⟨h s W W' row hs.1 hg hr, g s W W' row hs.2 hg hr⟩
set_option maxRecDepth 100000 in
theorem AbM.pure {β : Type} {M : Obj → Prop} {B : Nat} (p : β → Prop) : AbM M B (fun s (_ : World) => p s) := fun _ _ _ _ hs _ _ => hs
set_option maxRecDepth 100000 in
theorem AbM.blk {β : Type} {M : Obj → Prop} {B : Nat} {t : TypeId} (hM : ∀ v f, ¬ M (.cells v t f)) (b : β → Nat) (vs : β → Array Value) : AbM M B (fun s W => W.heap[b s]? = some (.cells (vs s) t (0, 0))) := fun s W W' row hs hg hr =>
  (hg.block _ (Array.getElem?_eq_some_iff.1 hs).1 (fun e => by
    obtain ⟨_, o, ho, hb⟩ := hr _ e.symm
    rw [hs] at ho
    cases ho
    exact hM _ _ hb)).trans hs
set_option maxRecDepth 100000 in
theorem nobk (v : Array Value) (t : TypeId) (f : Nat × Nat) : ¬ Bk (fun _ => False) (.cells v t f) := by
  rintro (⟨r, e⟩ | ⟨d, e⟩ | h)
  · cases e
  · cases e
  · exact h

set_option maxRecDepth 100000 in
theorem KpM.others {M : Obj → Prop} {B : Nat} {W W' : World} (h : KeepsOthers W W') (hM : ∀ o, M o → o.isCells = false) : KpM M B W W' := ⟨h.size, fun k o _ hk ho => h.same k o hk (hM o ho)⟩
set_option maxRecDepth 100000 in
theorem KpM.below {M : Obj → Prop} {B : Nat} {W W' : World} (h : Below W.heap.size W W') : KpM M B W W' := ⟨h.size, fun k _ _ hk _ => (h.block k (Array.getElem?_eq_some_iff.1 hk).1).trans hk⟩
set_option maxRecDepth 100000 in
theorem Zs.setSlice {q : IntKind} {w : World} {A : Option Addr} {n c : Nat} {zs : List Int} (h : Zs q w A n c zs) {p : Addr} {B : Option Addr} {m e : Nat} (hp : w.cell? p = Option.some (.slice B m e)) (v : Value) : Zs q (w.setCell p v) A n c zs := by
  refine ⟨h.len, h.nc, h.cm, h.wf, fun hn => ?_⟩
  obtain ⟨b, o, e, hlt, hc⟩ := h.el hn
  refine ⟨b, o, e, by simpa using hlt, fun j hj => ?_⟩
  rw [World.cell?_setCell_other w p ⟨b, o + j, none⟩ v (fun e => by
    have h1 := hc j hj
    rw [← e, hp] at h1
    cases h1)]
  exact hc j hj
set_option maxRecDepth 100000 in
theorem take_snoc {rs pre : List FR} {x : FR} (h : ∃ k, pre ++ [x] = rs.take k) : pre.length < rs.length ∧ x = rs.getD pre.length FR.zero := by
  obtain ⟨k, hk⟩ := h
  have h1 := congrArg List.length hk
  rw [List.length_append, List.length_take] at h1
  simp only [List.length_cons, List.length_nil] at h1
  have h2 : pre.length < rs.length := by omega
  refine ⟨h2, ?_⟩
  have h3 : (pre ++ [x])[pre.length]? = some x := by simp
  rw [hk, List.getElem?_take_of_lt (by omega)] at h3
  rw [List.getD_eq_getElem?_getD, h3]
  rfl

set_option maxRecDepth 100000 in
theorem regions_seq (n : Nat) (hn1 : 1 ≤ n) (B0 n₀ : Nat) (r : DR) (d : Dmp) (hm : r.fm ≤ 1000) (w : World) (hx : Bx w B0 r) (hB : B0 < n₀) (hn₀ : n₀ ≤ w.heap.size) (hv0 : ∀ V, Below n₀ w V → DV V r d) :
    SeqM Fence.wide n Tryz.prog 94 #[.pointer (some ⟨B0, 0, none⟩)] encF (fun _ => False) (Below n₀) (fun l => ∃ k, l = (r.y :: r.o :: r.rs).take k) (fun l => l = r.y :: r.o :: r.rs) (fun l => ∃ k, l = (r.y :: r.o :: r.rs).take k) w := by
  intro l J Jx W hW hJ hJx hY h0
  refine (regions1_in n hn1 l B0 n₀ r d hm J Jx hJ hY W ?_ hB (Nat.le_trans hn₀ hW.size) ?_ h0).mono ?_
  · exact hx.below hW (Nat.lt_of_lt_of_le hB hn₀)
  · intro V hV
    exact hv0 V ((hW.mono hn₀).trans hV)
  · rintro e W' ⟨he, hh⟩
    exact ⟨he, hh⟩

set_option maxRecDepth 100000 in
set_option maxRecDepth 100000 in
set_option maxHeartbeats 4000000 in
theorem fromW_any {w : World} {r : DR} {d : Dmp} (h : DV w r d) (hm : r.fm ≤ 1000) (a : Int) (ha : -9223372036854775808 ≤ a ∧ a ≤ 9223372036854775807) :
    Calls Tryz.prog 176 #[.agg #[.int .i64 r.y.at_, .slice r.y.A r.y.n r.y.c, .int .i64 r.o.at_, .slice r.o.A r.o.n r.o.c, .int .i64 r.size, .int .i64 r.mark, .slice r.F r.fm r.fc, .slice r.R r.rm r.rc, .slice r.H r.hm r.hc], .int .i64 a] w (WsP w (atL (d.y :: d.o :: d.fs) a)) := by
  refine (callsIn_wide (n := 3)).1 ?_
  refine callsIn_of_wp_marks Tryz.func176 rfl trivial ?_ rfl
  simp only [Tryz.ntmps176, List.size_toArray, List.length_cons, List.length_nil, Nat.reduceAdd, Nat.reduceSub, Array.replicate_succ, Array.replicate_zero, List.push_toArray, List.append_toArray, List.nil_append, List.cons_append]
  gi_wp2_with ((try refine ⟨trivial, ?_⟩); gi_at_call 61; refine (callsIn_wide.2 (regions_any r)).mono ?_; rintro e w' ⟨rfl, rfl⟩)
  obtain ⟨W0, hW0⟩ : ∃ W0, W0 = (((w.alloc (.cells #[.int .i64 r.y.at_, .slice r.y.A r.y.n r.y.c, .int .i64 r.o.at_, .slice r.o.A r.o.n r.o.c, .int .i64 r.size, .int .i64 r.mark, .slice r.F r.fm r.fc, .slice r.R r.rm r.rc, .slice r.H r.hm r.hc] 63)).alloc (.cells #[.int .i64 a] 3)).alloc (.cells #[.slice none 0 0] 22)).alloc (.cells #[.int .i64 r.y.at_, .slice r.y.A r.y.n r.y.c, .int .i64 r.o.at_, .slice r.o.A r.o.n r.o.c, .int .i64 r.size, .int .i64 r.mark, .slice r.F r.fm r.fc, .slice r.R r.rm r.rc, .slice r.H r.hm r.hc] 28) := ⟨_, rfl⟩
  have hB0 : Below w.heap.size w W0 := by
    rw [hW0]
    exact ((((Below.refl _ w).alloc (Nat.le_refl _) _).alloc (by simp) _).alloc (by simp; omega) _).alloc (by simp; omega) _
  have hs0 : W0.heap.size = w.heap.size + 4 := by rw [hW0]; simp
  have k1 : W0.heap[w.heap.size + 1]? = some (.cells #[.int .i64 a] 3 (0, 0)) := by
    rw [hW0, Below.heap_alloc _ _ _ (by simp), Below.heap_alloc _ _ _ (by simp)]
    have := heap_alloc_new (w.alloc (.cells #[.int .i64 r.y.at_, .slice r.y.A r.y.n r.y.c, .int .i64 r.o.at_, .slice r.o.A r.o.n r.o.c, .int .i64 r.size, .int .i64 r.mark, .slice r.F r.fm r.fc, .slice r.R r.rm r.rc, .slice r.H r.hm r.hc] 63)) (.cells #[.int .i64 a] 3)
    simpa using this
  have k2 : W0.heap[w.heap.size + 2]? = some (.cells #[.slice none 0 0] 22 (0, 0)) := by
    rw [hW0, Below.heap_alloc _ _ _ (by simp)]
    have := heap_alloc_new ((w.alloc (.cells #[.int .i64 r.y.at_, .slice r.y.A r.y.n r.y.c, .int .i64 r.o.at_, .slice r.o.A r.o.n r.o.c, .int .i64 r.size, .int .i64 r.mark, .slice r.F r.fm r.fc, .slice r.R r.rm r.rc, .slice r.H r.hm r.hc] 63)).alloc (.cells #[.int .i64 a] 3)) (.cells #[.slice none 0 0] 22)
    simpa using this
  have k3 : Bx W0 (w.heap.size + 3) r := ⟨by
    rw [hW0]
    have := heap_alloc_new (((w.alloc (.cells #[.int .i64 r.y.at_, .slice r.y.A r.y.n r.y.c, .int .i64 r.o.at_, .slice r.o.A r.o.n r.o.c, .int .i64 r.size, .int .i64 r.mark, .slice r.F r.fm r.fc, .slice r.R r.rm r.rc, .slice r.H r.hm r.hc] 63)).alloc (.cells #[.int .i64 a] 3)).alloc (.cells #[.slice none 0 0] 22)) (.cells #[.int .i64 r.y.at_, .slice r.y.A r.y.n r.y.c, .int .i64 r.o.at_, .slice r.o.A r.o.n r.o.c, .int .i64 r.size, .int .i64 r.mark, .slice r.F r.fm r.fc, .slice r.R r.rm r.rc, .slice r.H r.hm r.hc] 28)
    simpa using this⟩
  have v0 := h.below hB0
  have hlr : (r.y :: r.o :: r.rs).length = r.fm + 2 := by simp [h.fs.len]
  have hlg : (d.y :: d.o :: d.fs).length = r.fm + 2 := by simp [h.fs.lef]
  have hfv : ∀ V, DV V r d → ∀ k, k < r.fm + 2 → FV V ((r.y :: r.o :: r.rs).getD k FR.zero) ((d.y :: d.o :: d.fs).getD k Frg.zero) := fun V hV k hk => by
    match k, hk with
    | 0, _ => exact hV.y
    | 1, _ => exact hV.o
    | k + 2, hk => simpa using hV.fs.fv k (by omega)
  replace hfv := Lib.hid hfv
  rw [show w.heap.size + 1 + 1 = w.heap.size + 2 by omega, show w.heap.size + 2 + 1 = w.heap.size + 3 by omega] at *
  rw [← hW0]
  clear hW0 h
  generalize hgs : d.y :: d.o :: d.fs = gs at *
  have hrrR := regions_seq 2 (by omega) (w.heap.size + 3) W0.heap.size r d hm W0 k3 (by omega) (Nat.le_refl _) (fun V hV => v0.below hV)
  generalize hrr : r.y :: r.o :: r.rs = rr at *
  refine range_m rfl (by omega) (gf := 94) (lb := #[.pointer (some ⟨w.heap.size + 3, 0, none⟩)]) rfl trivial (enters_of Tryz.func94 (by kernel_rfl) rfl)
    hrrR (fun _ h => h) (fun _ h => h) (fun h k => h.trans k) (fun V l r' o' hl hr => (Below.refl _ V).grown (grownBy_putObj' V l o') (by have := (Array.getElem?_eq_some_iff.1 hr).1; omega) (fun k e => by cases e; exact hl))
    (Below.refl _ _) (fun _ => rfl)
    (fun pre W => (pre.length ≤ r.fm + 2 ∧ atL (gs.drop pre.length) a = atL gs a) ∧ Below W0.heap.size W0 W)
    (fun c _ W => (c = .ret ∧ ∃ A n c', W.cell? ⟨w.heap.size + 2, 0, none⟩ = some (.slice A n c') ∧ Zs .u64 W A n c' (atL gs a)) ∧ Below w.heap.size w W)
    (AbM.and (AbM.pure _) (below_grown (Nat.le_refl _) (Nat.le_refl _)))
    (fun c => AbM.and (fun s V V' row hs hg hr => by
      obtain ⟨hc, A, n, c', hb, hz⟩ := hs
      have hr' := rng_cell (fun _ h => h) hr
      exact ⟨hc, A, n, c', cell_kept hb hg hr', hz.kept hg hr'⟩) (below_grown (by omega) (Nat.le_refl _)))
    ⟨⟨Nat.zero_le _, by simp⟩, Below.refl _ _⟩
    (fun pre x a' V => ∃ B, W0.heap.size ≤ B ∧ V.heap[B]? = some (.cells #[.int .i64 x.at_, .slice x.A x.n x.c] 24 (0, 0)) ∧ a' = { tmps := #[.agg #[.int .i64 r.y.at_, .slice r.y.A r.y.n r.y.c, .int .i64 r.o.at_, .slice r.o.A r.o.n r.o.c, .int .i64 r.size, .int .i64 r.mark, .slice r.F r.fm r.fc, .slice r.R r.rm r.rc, .slice r.H r.hm r.hc], .int .i64 a, .pointer (some ⟨w.heap.size, 0, none⟩), .pointer (some ⟨w.heap.size + 1, 0, none⟩), .pointer (some ⟨w.heap.size + 2, 0, none⟩), .pointer (some ⟨B, 0, none⟩), undef, .agg #[.int .i64 r.y.at_, .slice r.y.A r.y.n r.y.c, .int .i64 r.o.at_, .slice r.o.A r.o.n r.o.c, .int .i64 r.size, .int .i64 r.mark, .slice r.F r.fm r.fc, .slice r.R r.rm r.rc, .slice r.H r.hm r.hc], .func (.func 94) #[] #[.pointer (some ⟨w.heap.size + 3, 0, none⟩)], .agg #[.int .i64 x.at_, .slice x.A x.n x.c], undef, undef, undef, undef, undef, undef, undef], defers := [] })
    (fun pre x a' s V V' row hs hg hr => by
      obtain ⟨B, h1, h2, h3⟩ := hs
      exact ⟨B, h1, (hg.block _ (Array.getElem?_eq_some_iff.1 h2).1 (fun e => by
        obtain ⟨o, ho, hoc⟩ := rng_cell (fun _ h => h) hr _ e.symm
        rw [h2] at ho
        cases ho
        cases hoc)).trans h2, h3⟩) ?assign ?body ?done ?stop
  case assign =>
    intro l pre x V K hi hR hK
    unfold encF
    gi_wp2
    have hb : ∀ B, B ≤ V.heap.size → Below B V (V.alloc (.cells #[.int .i64 x.at_, .slice x.A x.n x.c] 24)) := fun B hB => (Below.refl _ V).alloc hB _
    exact hK _ _ (KpM.below (hb _ (Nat.le_refl _))) (hb _ hi.2.size) ⟨hi.1, hi.2.trans (hb _ hi.2.size)⟩ ⟨V.heap.size, hi.2.size, heap_alloc_new V _, rfl⟩
  case body =>
    rintro l pre x a' V ⟨⟨hlen, hat⟩, hbV⟩ ⟨B, hB1, hB2, rfl⟩ hR
    obtain ⟨hpl, hx⟩ := take_snoc hR
    rw [hlr] at hpl
    have hfx := hfv.out V (v0.below hbV) pre.length hpl
    rw [← hx] at hfx
    have HC := Lib.hid (behind_any hfx a ha)
    have hbh := atL_bh (gs.getD pre.length Frg.zero) (gs.drop (pre.length + 1)) a
    have hdc : gs.getD pre.length Frg.zero :: gs.drop (pre.length + 1) = gs.drop pre.length := by
      have := List.drop_eq_getElem_cons (l := gs) (i := pre.length) (by rw [hlg]; exact hpl)
      rw [this]
      simp [hlg, hpl]
    rw [hdc] at hbh
    rw [hat] at hbh
    have q0 : V.cell? ⟨B, 0, none⟩ = some (.int .i64 x.at_) := (cell_of_row V B 0 _ _ (0, 0) hB2).trans rfl
    have q1 : V.cell? ⟨B, 1, none⟩ = some (.slice x.A x.n x.c) := (cell_of_row V B 1 _ _ (0, 0) hB2).trans rfl
    have q3 : V.cell? ⟨w.heap.size + 1, 0, none⟩ = some (.int .i64 a) := (cell_of_row V _ 0 _ _ (0, 0) ((hbV.block _ (by omega)).trans k1)).trans rfl
    clear hfx hx hR
    gi_wp2_with ((try refine ⟨trivial, ?_⟩); gi_at_call 66; refine (CallsIn.inRound l (callsIn_wide.2 HC.out)).mono ?_; rintro e V1 ⟨A1, n1, c1, rfl, hz1, hb1⟩; have k2V := (hb1.block _ (by have := hbV.size; omega)).trans ((hbV.block _ (by omega)).trans k2); have q4 : V1.cell? ⟨w.heap.size + 2, 0, none⟩ = some (.slice none 0 0) := (cell_of_row V1 _ 0 _ _ (0, 0) k2V).trans rfl; have q5 : V1.frozen? ⟨w.heap.size + 2, 0, none⟩ = false := frozen_of_row V1 _ 0 _ _ k2V; have hl1 := hz1.len)
    · rename_i hpos
      have hne : ¬ bhL (gs.getD pre.length Frg.zero) a = [] := fun e => by rw [e] at hl1; simp at hl1; omega
      rw [if_neg hne] at hbh
      refine ⟨(KpM.below hb1).trans (KpM.others (KeepsOthers.setCell _ _ _) (nM _ (fun _ h => h))), ⟨rfl, _, _, _, World.cell?_setCell_same' _ _ _ (by rw [q4]; rfl), by rw [hbh]; exact hz1.setSlice q4 _⟩, ?_⟩
      exact ((hB0.trans (hbV.mono (by omega))).trans (hb1.mono (by have := hbV.size; omega))).setCell (p := ⟨w.heap.size + 2, 0, none⟩) (by simp) _
    · rename_i hpos
      have hne : bhL (gs.getD pre.length Frg.zero) a = [] := List.eq_nil_of_length_eq_zero (by omega)
      rw [if_pos hne] at hbh
      refine ⟨KpM.below hb1, hb1.mono hbV.size, ⟨by simp; omega, ?_⟩, hbV.trans (hb1.mono hbV.size)⟩
      simp only [List.length_append, List.length_cons, List.length_nil]
      exact hbh.symm
  case done =>
    rintro D' xs V hD rfl ⟨⟨_, hat⟩, hbV⟩ hK
    have hZ : atL gs a = [] := by
      rw [← hat, List.drop_of_length_le (by omega)]
      rfl
    have k2V := (hbV.block _ (by omega)).trans k2
    have q4 : V.cell? ⟨w.heap.size + 2, 0, none⟩ = some (.slice none 0 0) := (cell_of_row V _ 0 _ _ (0, 0) k2V).trans rfl
    have q5 : V.frozen? ⟨w.heap.size + 2, 0, none⟩ = false := frozen_of_row V _ 0 _ _ k2V
    gi_wp2
    have hK' := (KeepsOthers.setCell V ⟨w.heap.size + 2, 0, none⟩ (.slice none 0 0)).same D' _ hK rfl
    refine ⟨by simp, .inl ⟨_, _, rfl, run_takeDeferred hK', ?_⟩⟩
    have hc5 := cell_kept (World.cell?_setCell_same' V ⟨w.heap.size + 2, 0, none⟩ (.slice none 0 0) (by rw [q4]; rfl)) (grownBy_putObj' _ D' (.deferred none)) (fun r e => by cases e; exact ⟨_, hK', rfl⟩)
    refine ⟨.slice none 0 0, ?_, none, 0, 0, rfl, by rw [hZ]; exact Zs.nil _ _, ((hB0.trans (hbV.mono (by omega))).setCell (p := ⟨w.heap.size + 2, 0, none⟩) (by simp) _).trans (belowK_b (w := w) (Nat.le_refl _) _ D' _ _ (by omega) hK' rfl rfl)⟩
    simp [results, Tryz.f176, go_sem, hc5]
  case stop =>
    rintro D' c pre V hD hpre ⟨⟨rfl, A1, n1, c1, hcr, hz⟩, hb⟩ hK
    gi_wp2
    refine ⟨by simp, .inl ⟨_, _, rfl, run_takeDeferred hK, ?_⟩⟩
    have hkk : ∀ r', some D' = some r' → ∃ o : Obj, V.heap[r']? = some o ∧ o.isCells = false := fun r' e => by cases e; exact ⟨_, hK, rfl⟩
    have hc5 := cell_kept hcr (grownBy_putObj' _ D' (.deferred none)) hkk
    refine ⟨.slice A1 n1 c1, ?_, A1, n1, c1, rfl, hz.kept (grownBy_putObj' _ D' (.deferred none)) hkk, hb.trans (belowK_b (w := w) (Nat.le_refl _) _ D' _ _ (by omega) hK rfl rfl)⟩
    simp [results, Tryz.f176, go_sem, hc5]
end Go.Proofs.YtejmmjedognaaaaGreat
