/-
  PACKAGE look: separate (written by gen_lpsa.py).
-/
import Derived.Test.YtejmmjedognaaaaGreatMv34
import Derived.RangeFuncBox
import Derived.Sort.QuietIn
namespace Go.Proofs.YtejmmjedognaaaaGreat
open Go.RowKit Go.Shelf
open St
attribute [local go_sem] Oper.semAt_some

def Pz (r : DR) (d : Dmp) : List (FR × Frg) := (r.y :: r.o :: r.rs).zip (d.y :: d.o :: d.fs)
def neP (l : List (FR × Frg)) : List (FR × Frg) := l.filter (fun p => decide (0 < p.2.ws.length))
set_option maxRecDepth 100000 in
theorem neP_snd (l : List (FR × Frg)) : (neP l).map (·.2) = neF (l.map (·.2)) := by
  unfold neP neF
  rw [List.filter_map]
  rfl
set_option maxRecDepth 100000 in
theorem neP_snoc (l : List (FR × Frg)) (p : FR × Frg) : neP (l ++ [p]) = if 0 < p.2.ws.length then neP l ++ [p] else neP l := by
  unfold neP
  rw [List.filter_append]
  by_cases h : 0 < p.2.ws.length
  · rw [if_pos h]; simp [h]
  · rw [if_neg h]
    have : p.2.ws.length = 0 := by omega
    simp [this]
set_option maxRecDepth 100000 in
theorem neP_len (l : List (FR × Frg)) : (neP l).length ≤ l.length := List.length_filter_le _ _
set_option maxRecDepth 100000 in
/-- A row of one's own, where blocks of book-keeping turn. -/
theorem own_bk {w w' : World} {B : Nat} {t : TypeId} {k : Nat} {v : Value} {n : Nat} {xs : List Value} {row : Option Nat} (h : w.ownsRow B t k v n xs) (hg : w.grownBy w' row) (hr : ∀ r, row = some r → ∃ o : Obj, w.heap[r]? = some o ∧ o.isCells = false) : w'.ownsRow B t k v n xs := by
  refine ⟨h.1, ?_⟩
  rcases h.2 with h0 | ⟨g, cap, cur, hv, hb, hgg, rest⟩
  · exact .inl h0
  · refine .inr ⟨g, cap, cur, hv, hb, ?_, rest⟩
    exact (hg.block g (Array.getElem?_eq_some_iff.1 hgg).1 (fun e => by
      obtain ⟨o, ho, hoc⟩ := hr g e.symm
      rw [hgg] at ho
      cases ho
      cases hoc)).trans hgg
set_option maxRecDepth 100000 in
theorem own_mono {w : World} {B B' : Nat} {t : TypeId} {k : Nat} {v : Value} {n : Nat} {xs : List Value} (h : w.ownsRow B t k v n xs) (hb : B' ≤ B) : w.ownsRow B' t k v n xs := by
  refine ⟨h.1, ?_⟩
  rcases h.2 with h0 | ⟨g, cap, cur, hv, hbb, rest⟩
  · exact .inl h0
  · exact .inr ⟨g, cap, cur, hv, Nat.le_trans hb hbb, rest⟩
set_option maxRecDepth 100000 in
theorem own_chg {w w' : World} {B : Nat} {t : TypeId} {k : Nat} {v : Value} {n : Nat} {xs : List Value} {K : Nat → Prop} (h : w.ownsRow B t k v n xs) (hc : Chg K w w') (hk : ∀ k, K k → k < B) : w'.ownsRow B t k v n xs := by
  refine ⟨h.1, ?_⟩
  rcases h.2 with h0 | ⟨g, cap, cur, hv, hb, hgg, rest⟩
  · exact .inl h0
  · exact .inr ⟨g, cap, cur, hv, hb, (hc.block g (Array.getElem?_eq_some_iff.1 hgg).1 (fun e => by have := hk g e; omega)).trans hgg, rest⟩
set_option maxRecDepth 100000 in
theorem info_frL : (Tryz.prog.info? 24).map (fun i => (i.zero, i.size, i.bytes)) = some (some (.agg #[.int .i64 0, .slice none 0 0]), 2, 32) := by kernel_rfl
set_option maxRecDepth 100000 in
theorem two_new (w : World) (x y : Value) (t : TypeId) : ∀ j u, [x, y][j]? = some u → (w.alloc (.cells #[x, y] t)).cell? ((⟨w.heap.size, 0, none⟩ : Addr).add j) = some u := by
  intro j u hj
  rw [Lk.addN, Nat.zero_add, cell_of_row _ _ _ _ _ (0, 0) (heap_alloc_new w _)]
  match j, hj with
  | 0, hj => simpa using hj
  | 1, hj => simpa using hj
  | j + 2, hj => simp at hj

set_option maxRecDepth 100000 in
theorem getD_some {α : Type} {l : List α} {k : Nat} {z : α} (h : k < l.length) : l[k]? = some (l.getD k z) := by
  rw [List.getD_eq_getElem?_getD, List.getElem?_eq_getElem h]
  rfl
set_option maxRecDepth 100000 in
theorem fvs_bk {w w' : World} {A : Option Addr} {m c : Nat} {rs : List FR} {fs : List Frg} {row : Option Nat} (h : FVs w A m c rs fs) (hg : w.grownBy w' row) (hr : ∀ r, row = some r → ∃ o : Obj, w.heap[r]? = some o ∧ o.isCells = false) : FVs w' A m c rs fs := by
  refine ⟨h.len, h.lef, h.mc, h.cm, fun hm => ?_, fun i hi => ⟨(h.fv i hi).at_, (h.fv i hi).wf, (h.fv i hi).ws.kept hg hr⟩⟩
  obtain ⟨b, o, e, hlt, hc⟩ := h.el hm
  refine ⟨b, o, e, Nat.lt_of_lt_of_le hlt hg.size, fun i hi j hj => ?_⟩
  have h1 := hc i hi j hj
  have hlen : (rs.getD i FR.zero).cells.length = 2 := rfl
  rw [List.getElem?_eq_getElem (by omega)] at h1 ⊢
  exact cell_kept h1 hg hr
set_option maxRecDepth 100000 in
/-- The two results are written. -/
theorem sep_end {w V : World} {S D' : Nat} {t1 t2 : TypeId} {u1 u2 v1 v2 : Value} (hS : S = w.heap.size) (h1 : Boxed V (S + 1) t1 u1) (h2 : Boxed V (S + 2) t2 u2) (hK : V.heap[D']? = some (.deferred (some []))) (hB : Below w.heap.size w V) (hD : w.heap.size ≤ D') :
    ((V.setCell ⟨S + 1, 0, none⟩ v1).setCell ⟨S + 2, 0, none⟩ v2).heap[D']? = some (.deferred (some [])) ∧
    (((V.setCell ⟨S + 1, 0, none⟩ v1).setCell ⟨S + 2, 0, none⟩ v2).putObj D' (.deferred none)).cell? ⟨S + 1, 0, none⟩ = some v1 ∧
    (((V.setCell ⟨S + 1, 0, none⟩ v1).setCell ⟨S + 2, 0, none⟩ v2).putObj D' (.deferred none)).cell? ⟨S + 2, 0, none⟩ = some v2 ∧
    Below w.heap.size w (((V.setCell ⟨S + 1, 0, none⟩ v1).setCell ⟨S + 2, 0, none⟩ v2).putObj D' (.deferred none)) := by
  have hK' : ((V.setCell ⟨S + 1, 0, none⟩ v1).setCell ⟨S + 2, 0, none⟩ v2).heap[D']? = some (.deferred (some [])) := ((KeepsOthers.setCell V _ _).trans (KeepsOthers.setCell _ _ _)).same D' _ hK rfl
  have hkk : ∀ r', some D' = some r' → ∃ o : Obj, ((V.setCell ⟨S + 1, 0, none⟩ v1).setCell ⟨S + 2, 0, none⟩ v2).heap[r']? = some o ∧ o.isCells = false := fun r' e => by cases e; exact ⟨_, hK', rfl⟩
  have e1 : Boxed ((V.setCell ⟨S + 1, 0, none⟩ v1).setCell ⟨S + 2, 0, none⟩ v2) (S + 1) t1 v1 := (h1.set _).kept (grownBy_setCell' _ _ _) (by simp)
  have e2 : Boxed ((V.setCell ⟨S + 1, 0, none⟩ v1).setCell ⟨S + 2, 0, none⟩ v2) (S + 2) t2 v2 := (h2.kept (grownBy_setCell' V (S + 1) v1) (by simp)).set _
  exact ⟨hK', cell_kept e1.cell (grownBy_putObj' _ D' (.deferred none)) hkk, cell_kept e2.cell (grownBy_putObj' _ D' (.deferred none)) hkk,
    ((hB.setCell (p := ⟨S + 1, 0, none⟩) (by simp only; omega) _).setCell (p := ⟨S + 2, 0, none⟩) (by simp only; omega) _).trans (belowK_b (w := w) (Nat.le_refl _) _ D' _ _ hD hK' rfl rfl)⟩
/-- What separate answers. -/
def SepP (w : World) (gs : List Frg) (e : Ending) (w' : World) : Prop :=
  ((∃ A n c rs fs, e = .returned (.tuple #[.slice A n c, .bool true]) ∧ FVs w' A n c rs fs ∧ n ≤ 8 ∧ Srt fs ∧ (∀ a, atL gs a = atL fs a) ∧ Sepa gs) ∨ (e = .returned (.tuple #[.slice none 0 0, .bool false]) ∧ ¬ Sepa gs)) ∧ Below w.heap.size w w'
/-- What a loop over the regions keeps. -/
def SaK (S k : Nat) : Prop := k = S + 3 ∨ S + 5 ≤ k
def SaI (S : Nat) (r : DR) (d : Dmp) (pre : List FR) (W : World) : Prop :=
  ∃ A c, Boxed W (S + 3) 74 (.slice A (neP ((Pz r d).take pre.length)).length c) ∧ W.ownsRow (S + 5) 24 2 (.slice A (neP ((Pz r d).take pre.length)).length c) (neP ((Pz r d).take pre.length)).length (frcs ((neP ((Pz r d).take pre.length)).map (·.1))) ∧ (∀ p ∈ neP ((Pz r d).take pre.length), InR p.2)

set_option maxRecDepth 100000 in
set_option maxRecDepth 100000 in
set_option maxHeartbeats 8000000 in
theorem separate_any {w : World} {r : DR} {d : Dmp} (h : DV w r d) (hm : r.fm ≤ 6) (hg : ∀ f ∈ d.y :: d.o :: d.fs, f.ws.length ≤ 1000) :
    Calls Tryz.prog 29 #[.agg #[.int .i64 r.y.at_, .slice r.y.A r.y.n r.y.c, .int .i64 r.o.at_, .slice r.o.A r.o.n r.o.c, .int .i64 r.size, .int .i64 r.mark, .slice r.F r.fm r.fc, .slice r.R r.rm r.rc, .slice r.H r.hm r.hc]] w (SepP w (d.y :: d.o :: d.fs)) := by
  refine (callsIn_wide (n := 3)).1 ?_
  refine callsIn_of_wp_marks Tryz.func29 rfl trivial ?_ rfl
  simp only [Tryz.ntmps29, List.size_toArray, List.length_cons, List.length_nil, Nat.reduceAdd, Nat.reduceSub, Array.replicate_succ, Array.replicate_zero, List.push_toArray, List.append_toArray, List.nil_append, List.cons_append]
  gi_wp2_with ((try refine ⟨trivial, ?_⟩); gi_at_call 61; refine (callsIn_wide.2 (regions_any r)).mono ?_; rintro e w' ⟨rfl, rfl⟩)
  obtain ⟨W0, hW0⟩ : ∃ W0, W0 = ((((w.alloc (.cells #[.int .i64 r.y.at_, .slice r.y.A r.y.n r.y.c, .int .i64 r.o.at_, .slice r.o.A r.o.n r.o.c, .int .i64 r.size, .int .i64 r.mark, .slice r.F r.fm r.fc, .slice r.R r.rm r.rc, .slice r.H r.hm r.hc] 28)).alloc (.cells #[.slice none 0 0] 74)).alloc (.cells #[.bool false] 4)).alloc (.cells #[.slice none 0 0] 74)).alloc (.cells #[.int .i64 r.y.at_, .slice r.y.A r.y.n r.y.c, .int .i64 r.o.at_, .slice r.o.A r.o.n r.o.c, .int .i64 r.size, .int .i64 r.mark, .slice r.F r.fm r.fc, .slice r.R r.rm r.rc, .slice r.H r.hm r.hc] 28) := ⟨_, rfl⟩
  have hB0 : Below w.heap.size w W0 := by
    rw [hW0]
    exact (((((Below.refl _ w).alloc (Nat.le_refl _) _).alloc (by simp) _).alloc (by simp; omega) _).alloc (by simp; omega) _).alloc (by simp; omega) _
  have hs0 : W0.heap.size = w.heap.size + 5 := by rw [hW0]; simp
  have k1 : W0.heap[w.heap.size + 1]? = some (.cells #[.slice none 0 0] 74 (0, 0)) := by
    rw [hW0, Below.heap_alloc _ _ _ (by simp), Below.heap_alloc _ _ _ (by simp), Below.heap_alloc _ _ _ (by simp)]
    have := heap_alloc_new (w.alloc (.cells #[.int .i64 r.y.at_, .slice r.y.A r.y.n r.y.c, .int .i64 r.o.at_, .slice r.o.A r.o.n r.o.c, .int .i64 r.size, .int .i64 r.mark, .slice r.F r.fm r.fc, .slice r.R r.rm r.rc, .slice r.H r.hm r.hc] 28)) (.cells #[.slice none 0 0] 74)
    simpa using this
  have k2 : W0.heap[w.heap.size + 2]? = some (.cells #[.bool false] 4 (0, 0)) := by
    rw [hW0, Below.heap_alloc _ _ _ (by simp), Below.heap_alloc _ _ _ (by simp)]
    have := heap_alloc_new ((w.alloc (.cells #[.int .i64 r.y.at_, .slice r.y.A r.y.n r.y.c, .int .i64 r.o.at_, .slice r.o.A r.o.n r.o.c, .int .i64 r.size, .int .i64 r.mark, .slice r.F r.fm r.fc, .slice r.R r.rm r.rc, .slice r.H r.hm r.hc] 28)).alloc (.cells #[.slice none 0 0] 74)) (.cells #[.bool false] 4)
    simpa using this
  have k3 : Boxed W0 (w.heap.size + 3) 74 (.slice none 0 0) := by
    unfold Boxed
    rw [hW0, Below.heap_alloc _ _ _ (by simp)]
    have := heap_alloc_new (((w.alloc (.cells #[.int .i64 r.y.at_, .slice r.y.A r.y.n r.y.c, .int .i64 r.o.at_, .slice r.o.A r.o.n r.o.c, .int .i64 r.size, .int .i64 r.mark, .slice r.F r.fm r.fc, .slice r.R r.rm r.rc, .slice r.H r.hm r.hc] 28)).alloc (.cells #[.slice none 0 0] 74)).alloc (.cells #[.bool false] 4)) (.cells #[.slice none 0 0] 74)
    simpa using this
  have k4 : Bx W0 (w.heap.size + 4) r := ⟨by
    rw [hW0]
    have := heap_alloc_new ((((w.alloc (.cells #[.int .i64 r.y.at_, .slice r.y.A r.y.n r.y.c, .int .i64 r.o.at_, .slice r.o.A r.o.n r.o.c, .int .i64 r.size, .int .i64 r.mark, .slice r.F r.fm r.fc, .slice r.R r.rm r.rc, .slice r.H r.hm r.hc] 28)).alloc (.cells #[.slice none 0 0] 74)).alloc (.cells #[.bool false] 4)).alloc (.cells #[.slice none 0 0] 74)) (.cells #[.int .i64 r.y.at_, .slice r.y.A r.y.n r.y.c, .int .i64 r.o.at_, .slice r.o.A r.o.n r.o.c, .int .i64 r.size, .int .i64 r.mark, .slice r.F r.fm r.fc, .slice r.R r.rm r.rc, .slice r.H r.hm r.hc] 28)
    simpa using this⟩
  have v0 := h.below hB0
  have hKB : ∀ V, Chg (SaK w.heap.size) W0 V → Below w.heap.size W0 V := fun V hV => hV.toBelow (fun k hk => by unfold SaK at hk; omega) (by omega)
  have hdv : ∀ V, Chg (SaK w.heap.size) W0 V → DV V r d := fun V hV => h.below (hB0.trans (hKB V hV))
  have hdvB : Hid (∀ V, Below w.heap.size w V → DV V r d) := Lib.hid (fun V hV => h.below hV)
  have hlr : (r.y :: r.o :: r.rs).length = r.fm + 2 := by simp [h.fs.len]
  have hlg : (d.y :: d.o :: d.fs).length = r.fm + 2 := by simp [h.fs.lef]
  have hlz : (Pz r d).length = r.fm + 2 := by unfold Pz; rw [List.length_zip, hlr, hlg, Nat.min_self]
  have hfv : ∀ V, DV V r d → ∀ k, k < r.fm + 2 → FV V ((r.y :: r.o :: r.rs).getD k FR.zero) ((d.y :: d.o :: d.fs).getD k Frg.zero) := fun V hV k hk => by
    match k, hk with
    | 0, _ => exact hV.y
    | 1, _ => exact hV.o
    | k + 2, hk => simpa using hV.fs.fv k (by omega)
  have hz : ∀ k, k < r.fm + 2 → (Pz r d).take (k + 1) = (Pz r d).take k ++ [((r.y :: r.o :: r.rs).getD k FR.zero, (d.y :: d.o :: d.fs).getD k Frg.zero)] := fun k hk => by
    have e : (Pz r d)[k]? = some ((r.y :: r.o :: r.rs).getD k FR.zero, (d.y :: d.o :: d.fs).getD k Frg.zero) := by
      unfold Pz
      rw [List.getElem?_zip_eq_some]
      exact ⟨getD_some (by omega), getD_some (by omega)⟩
    rw [List.take_add_one, e]
    rfl
  replace hfv := Lib.hid hfv
  replace hz := Lib.hid hz
  replace hdv := Lib.hid hdv
  obtain ⟨i0, hi0, hiz, his, hib⟩ := info_parts info_frL
  rw [show w.heap.size + 1 + 1 = w.heap.size + 2 by omega, show w.heap.size + 2 + 1 = w.heap.size + 3 by omega, show w.heap.size + 3 + 1 = w.heap.size + 4 by omega] at *
  rw [← hW0]
  clear hW0 h
  have hrrR := regions_seqK 2 (by omega) (w.heap.size + 4) (SaK w.heap.size) r d (by omega) W0 k4 (by unfold SaK; omega) hdv.out
  refine range_m rfl (by omega) (gf := 94) (lb := #[.pointer (some ⟨w.heap.size + 4, 0, none⟩)]) rfl trivial (enters_of Tryz.func94 (by kernel_rfl) rfl)
    hrrR (fun _ h => h) (fun _ h => h) (fun h k => h.trans k (fun _ _ h => h)) (fun V l r' o' hl hr => Chg.grown (grownBy_putObj' V l o') (fun k e => by cases e; unfold SaK; omega))
    (Below.refl _ _) (fun _ => rfl)
    (fun pre W => (pre.length ≤ r.fm + 2 ∧ SaI w.heap.size r d pre W) ∧ Chg (SaK w.heap.size) W0 W)
    (fun c _ W => (c = .ret ∧ ¬ Sepa (d.y :: d.o :: d.fs) ∧ Boxed W (w.heap.size + 1) 74 (.slice none 0 0) ∧ Boxed W (w.heap.size + 2) 4 (.bool false)) ∧ Below w.heap.size w W)
    (AbM.and (fun pre V V' row hs hg hr => by
      obtain ⟨hl, A, c, h1, h2, h3⟩ := hs
      have hr' := rng_cell (fun _ h => h) hr
      exact ⟨hl, A, c, h1.kept hg (fun e => by
        obtain ⟨o, ho, hoc⟩ := hr' _ e.symm
        rw [show V.heap[w.heap.size + 3]? = _ from h1] at ho
        cases ho
        cases hoc), own_bk h2 hg hr', h3⟩) (fun pre V V' row hs hg hr => hs.trans (Chg.grown hg (fun k e => by have := (hr k e).1; unfold SaK; omega)) (fun _ _ h => h)))
    (fun c => AbM.and (fun s V V' row hs hg hr => by
      obtain ⟨hc, hn, h1, h2⟩ := hs
      have hr' := rng_cell (fun _ h => h) hr
      exact ⟨hc, hn, h1.kept hg (fun e => by
        obtain ⟨o, ho, hoc⟩ := hr' _ e.symm
        rw [show V.heap[w.heap.size + 1]? = _ from h1] at ho
        cases ho
        cases hoc), h2.kept hg (fun e => by
        obtain ⟨o, ho, hoc⟩ := hr' _ e.symm
        rw [show V.heap[w.heap.size + 2]? = _ from h2] at ho
        cases ho
        cases hoc)⟩) (below_grown (by omega) (Nat.le_refl _)))
    ⟨⟨Nat.zero_le _, none, 0, k3, World.ownsRow_nil _ _ _ _, fun p hp => by simp [neP] at hp⟩, Chg.refl _ _⟩
    (fun pre x a' V => ∃ B, w.heap.size + 5 ≤ B ∧ V.heap[B]? = some (.cells #[.int .i64 x.at_, .slice x.A x.n x.c] 24 (0, 0)) ∧ a' = { tmps := #[.agg #[.int .i64 r.y.at_, .slice r.y.A r.y.n r.y.c, .int .i64 r.o.at_, .slice r.o.A r.o.n r.o.c, .int .i64 r.size, .int .i64 r.mark, .slice r.F r.fm r.fc, .slice r.R r.rm r.rc, .slice r.H r.hm r.hc], .pointer (some ⟨w.heap.size, 0, none⟩), .pointer (some ⟨w.heap.size + 1, 0, none⟩), .pointer (some ⟨w.heap.size + 2, 0, none⟩), .pointer (some ⟨w.heap.size + 3, 0, none⟩), .pointer (some ⟨B, 0, none⟩), undef, .agg #[.int .i64 r.y.at_, .slice r.y.A r.y.n r.y.c, .int .i64 r.o.at_, .slice r.o.A r.o.n r.o.c, .int .i64 r.size, .int .i64 r.mark, .slice r.F r.fm r.fc, .slice r.R r.rm r.rc, .slice r.H r.hm r.hc], .func (.func 94) #[] #[.pointer (some ⟨w.heap.size + 4, 0, none⟩)], .agg #[.int .i64 x.at_, .slice x.A x.n x.c], undef, undef, undef, undef, undef, undef, undef, undef, undef, undef, undef, undef, undef, undef, undef, undef, undef, undef, undef, undef, undef, undef, undef, undef, undef, undef, undef, undef, undef, undef, undef, undef, undef, undef, undef, undef, undef, undef, undef, undef, undef, undef, undef, undef, undef], defers := [] })
    (fun pre x a' s V V' row hs hg hr => by
      obtain ⟨B, h1, h2, h3⟩ := hs
      exact ⟨B, h1, (hg.block _ (Array.getElem?_eq_some_iff.1 h2).1 (fun e => by
        obtain ⟨o, ho, hoc⟩ := rng_cell (fun _ h => h) hr _ e.symm
        rw [h2] at ho
        cases ho
        cases hoc)).trans h2, h3⟩) ?assign ?body ?done ?stop
  case assign =>
    intro l pre x V K hi hR hK
    unfold encF
    gi_wp2
    have hb : Below V.heap.size V (V.alloc (.cells #[.int .i64 x.at_, .slice x.A x.n x.c] 24)) := (Below.refl _ V).alloc (Nat.le_refl _) _
    have hV := hi.2.size
    refine hK _ _ (KpM.below hb) (Chg.below hb) ⟨⟨hi.1.1, ?_⟩, hi.2.trans (Chg.below (K := SaK w.heap.size) hb) (fun _ _ h => h)⟩ ⟨V.heap.size, by omega, heap_alloc_new V _, rfl⟩
    obtain ⟨A, c, h1, h2, h3⟩ := hi.1.2
    exact ⟨A, c, h1.alloc _, h2.alloc _, h3⟩
  case body =>
    rintro l pre x a' V ⟨⟨hlen, A, c, hbx, hrow, hin⟩, hch⟩ ⟨B, hB1, hB2, rfl⟩ hR
    obtain ⟨hpl, hx⟩ := take_snoc hR
    rw [hlr] at hpl
    have hfx := hfv.out V (hdv.out V hch) pre.length hpl
    have hzk := hz.out pre.length hpl
    rw [← hx] at hfx hzk
    obtain ⟨f, hf⟩ : ∃ f, f = (d.y :: d.o :: d.fs).getD pre.length Frg.zero := ⟨_, rfl⟩
    rw [← hf] at hfx hzk
    have hfm : f ∈ d.y :: d.o :: d.fs := by rw [hf, List.getD_eq_getElem?_getD, List.getElem?_eq_getElem (by omega)]; exact List.getElem_mem _
    have hxn := Lib.hid hfx.ws.len
    have hxa := Lib.hid hfx.at_
    clear hfx
    have hV := hch.size
    have q0 : V.cell? ⟨B, 0, none⟩ = some (.int .i64 x.at_) := (cell_of_row V B 0 _ _ (0, 0) hB2).trans rfl
    have q1 : V.cell? ⟨B, 1, none⟩ = some (.slice x.A x.n x.c) := (cell_of_row V B 1 _ _ (0, 0) hB2).trans rfl
    have b1 : Boxed V (w.heap.size + 1) 74 (.slice none 0 0) := (hch.block _ (by omega) (by unfold SaK; omega)).trans k1
    have b2 : Boxed V (w.heap.size + 2) 4 (.bool false) := (hch.block _ (by omega) (by unfold SaK; omega)).trans k2
    have hsn : ∀ pre', pre' = pre ++ [x] → (Pz r d).take pre'.length = (Pz r d).take pre.length ++ [(x, f)] := fun pre' e => by rw [e, List.length_append, List.length_singleton]; exact hzk
    replace hsn := hsn _ rfl
    have hle : (pre ++ [x]).length ≤ r.fm + 2 := by rw [List.length_append, List.length_singleton]; omega
    clear hzk hR hx hf
    by_cases hx0 : x.n = 0
    · have hd : ((x.n : Int) == 0) = true := by rw [hx0]; rfl
      gi_wp2
      refine ⟨KpM.refl _ _ _, Chg.refl _ _, ⟨hle, ?_⟩, hch⟩
      unfold SaI
      rw [hsn, neP_snoc, if_neg (by have := hxn.out; simp only; omega)]
      exact ⟨A, c, hbx, hrow, hin⟩
    · have hd : ((x.n : Int) == 0) = false := beq_eq_false_iff_ne.2 (by omega)
      by_cases hlo : x.at_ < 0
      · have hd2 : decide (x.at_ < 0) = true := decide_eq_true hlo
        have hc1 := b1.cell; have hf1 := b1.frozen; have hc2 := b2.cell; have hf2 := b2.frozen
        gi_wp2
        have hns : ¬ Sepa (d.y :: d.o :: d.fs) := sep_out hfm (by have := hxn.out; omega) (fun hr => by have := hxa.out; have := hr.1; have := hr.2; omega)
        have hb' : Below w.heap.size w ((V.setCell ⟨w.heap.size + 1, 0, none⟩ (.slice none 0 0)).setCell ⟨w.heap.size + 2, 0, none⟩ (.bool false)) := ((hB0.trans (hKB V hch)).setCell (p := ⟨w.heap.size + 1, 0, none⟩) (by simp) _).setCell (p := ⟨w.heap.size + 2, 0, none⟩) (by simp) _
        have e1 : Boxed ((V.setCell ⟨w.heap.size + 1, 0, none⟩ (.slice none 0 0)).setCell ⟨w.heap.size + 2, 0, none⟩ (.bool false)) (w.heap.size + 1) 74 (.slice none 0 0) := (b1.set _).kept (grownBy_setCell' _ _ _) (by simp)
        have e2 : Boxed ((V.setCell ⟨w.heap.size + 1, 0, none⟩ (.slice none 0 0)).setCell ⟨w.heap.size + 2, 0, none⟩ (.bool false)) (w.heap.size + 2) 4 (.bool false) := (b2.kept (grownBy_setCell' V (w.heap.size + 1) (.slice none 0 0)) (by simp)).set _
        exact ⟨KpM.others ((KeepsOthers.setCell V _ _).trans (KeepsOthers.setCell _ _ _)) (nM _ (fun _ h => h)), ⟨rfl, hns, e1, e2⟩, hb'⟩
      · have hd2 : decide (x.at_ < 0) = false := decide_eq_false hlo
        by_cases hhi : 1125899906842624 < x.at_
        · have hd3 : decide (1125899906842624 < x.at_) = true := decide_eq_true hhi
          have hc1 := b1.cell; have hf1 := b1.frozen; have hc2 := b2.cell; have hf2 := b2.frozen
          gi_wp2
          have hns : ¬ Sepa (d.y :: d.o :: d.fs) := sep_out hfm (by have := hxn.out; omega) (fun hr => by have := hxa.out; have := hr.1; have := hr.2; omega)
          have hb' : Below w.heap.size w ((V.setCell ⟨w.heap.size + 1, 0, none⟩ (.slice none 0 0)).setCell ⟨w.heap.size + 2, 0, none⟩ (.bool false)) := ((hB0.trans (hKB V hch)).setCell (p := ⟨w.heap.size + 1, 0, none⟩) (by simp) _).setCell (p := ⟨w.heap.size + 2, 0, none⟩) (by simp) _
          have e1 : Boxed ((V.setCell ⟨w.heap.size + 1, 0, none⟩ (.slice none 0 0)).setCell ⟨w.heap.size + 2, 0, none⟩ (.bool false)) (w.heap.size + 1) 74 (.slice none 0 0) := (b1.set _).kept (grownBy_setCell' _ _ _) (by simp)
          have e2 : Boxed ((V.setCell ⟨w.heap.size + 1, 0, none⟩ (.slice none 0 0)).setCell ⟨w.heap.size + 2, 0, none⟩ (.bool false)) (w.heap.size + 2) 4 (.bool false) := (b2.kept (grownBy_setCell' V (w.heap.size + 1) (.slice none 0 0)) (by simp)).set _
          exact ⟨KpM.others ((KeepsOthers.setCell V _ _).trans (KeepsOthers.setCell _ _ _)) (nM _ (fun _ h => h)), ⟨rfl, hns, e1, e2⟩, hb'⟩
        · have hd3 : decide (1125899906842624 < x.at_) = false := decide_eq_false hhi
          have hc := hbx.cell
          have hnl := neP_len ((Pz r d).take pre.length)
          rw [List.length_take] at hnl
          gi_wp2_with (gi_at_builtin; refine wpListIn_append_own _ rfl _ _ 74 rfl (w.heap.size + 5) 24 i0 (.agg #[.int .i64 0, .slice none 0 0]) 2 32 Tryz.underlying74 hi0 hiz his hib rfl (by decide) _ _ _ rfl (hrow.alloc _) ⟨V.heap.size, 0, none⟩ 1 1 [.int .i64 x.at_, .slice x.A x.n x.c] rfl rfl (two_new _ _ _ _) (by simp [Value.oneCell']) (by unfold maxLen; omega) (by omega) (by simp; omega) ?_; intro v' w1 hown' hgrow _; obtain ⟨g', cap', rfl⟩ := ownsRow_succ hown'; have hv1 := (hbx.alloc (.cells #[.int .i64 x.at_, .slice x.A x.n x.c] 24)).kept hgrow (hbx.not_row (by decide) hrow); have hc1 := hv1.cell; have hf1 := hv1.frozen)
          have hap := hbx.appended (n₀ := w.heap.size + 3) (by decide) (e := 24) (own_mono hrow (by omega)) (by omega) (Nat.le_refl _) (own_mono hown' (by omega)) hgrow
          have hch2 : Chg (SaK w.heap.size) V (w1.setCell ⟨w.heap.size + 3, 0, none⟩ (.slice (some ⟨g', 0, none⟩) ((neP ((Pz r d).take pre.length)).length + 1) cap')) :=
            ((Chg.below (K := SaK w.heap.size) ((Below.refl _ V).alloc (Nat.le_refl _) (.cells #[.int .i64 x.at_, .slice x.A x.n x.c] 24))).trans (Chg.grown hgrow (fun k e => by have := (World.ownsRow.lt hrow k e).1; unfold SaK; omega)) (fun _ _ h => h)).setCell (.inl (.inl rfl)) _
          refine ⟨KpM.others hap.2.2.2.1 (nM _ (fun _ h => h)), hch2, ⟨hle, ?_⟩, hch.trans hch2 (fun _ _ h => h)⟩
          have hown2 := hown'.kept (grownBy_setCell' w1 (w.heap.size + 3) (.slice (some ⟨g', 0, none⟩) ((neP ((Pz r d).take pre.length)).length + 1) cap')) (.inr (hv1.not_row (by decide) hown').symm)
          have hbx2 := hap.2.1
          unfold SaI
          rw [hsn, neP_snoc, if_pos (by have := hxn.out; simp only; omega)]
          refine ⟨some ⟨g', 0, none⟩, cap', ?_, ?_, fun p hp => ?_⟩
          · rw [List.length_append]; exact hbx2
          · rw [List.length_append, List.map_append, frcs_app]; exact hown2
          · rcases List.mem_append.1 hp with hp | hp
            · exact hin p hp
            · rw [List.mem_singleton] at hp
              subst hp
              have := hxa.out
              exact ⟨by simp only; omega, by simp only; omega⟩
  case done =>
    rintro D' xs V hD rfl ⟨⟨hlen, A, c, hbx, hrow, hin⟩, hch⟩ hK
    have hfull : (Pz r d).take (r.y :: r.o :: r.rs).length = Pz r d := List.take_of_length_le (by omega)
    rw [hfull] at hbx hrow hin
    have hnl := neP_len (Pz r d)
    rw [hlz] at hnl
    have hneg : (neP (Pz r d)).map (·.2) = neF (d.y :: d.o :: d.fs) := by
      rw [neP_snd]
      unfold Pz
      rw [List.map_snd_zip (by omega)]
    have hfvp : ∀ p ∈ Pz r d, ∀ W, DV W r d → FV W p.1 p.2 := fun p hp W hW => by
      obtain ⟨k, hk, e⟩ := List.mem_iff_getElem.1 hp
      rw [hlz] at hk
      have h9 := hfv.out W hW k hk
      have e9 : (Pz r d)[k]? = some p := by rw [List.getElem?_eq_getElem (by rw [hlz]; exact hk), e]
      unfold Pz at e9
      rw [List.getElem?_zip_eq_some] at e9
      rw [List.getD_eq_getElem?_getD, List.getD_eq_getElem?_getD, e9.1, e9.2] at h9
      exact h9
    obtain ⟨L, hL⟩ : ∃ L, L = neP (Pz r d) := ⟨_, rfl⟩
    have hmemL : ∀ p ∈ neP (Pz r d), p ∈ Pz r d := fun p hp => (List.mem_filter.1 hp).1
    rw [← hL] at hbx hrow hin hnl hneg hmemL
    clear hL
    have hc3 := hbx.cell
    have hns := hbx.not_row (by decide) hrow
    have hSo := Lib.hid (sortF_any hrow (by omega))
    have hKown : ∀ k, A.map (·.block) = some k → SaK w.heap.size k := fun k e => by
      have h9 := (World.ownsRow.lt hrow k (by rw [own_of]; exact e)).1
      unfold SaK
      omega
    have hnsA : A.map (·.block) ≠ some (w.heap.size + 3) := fun e => hns (by rw [own_of, e])
    have hdq : A.map (·.block) ≠ some D' := fun e => by
      rcases hrow.2 with ⟨h0, _⟩ | ⟨g, cap, cur, hv, _, hgg, _⟩
      · injection h0 with e1 _ _
        rw [e1] at e
        cases e
      · injection hv with e1 _ _
        rw [e1] at e
        cases e
        rw [hK] at hgg
        cases hgg
    have hDlt := (Array.getElem?_eq_some_iff.1 hK).1
    have hVs := hch.size
    gi_wp2_with ((try refine ⟨trivial, ?_⟩); gi_at_call 62; refine (callsIn_wide.2 hSo.out).mono ?_; rintro e V1 ⟨rfl, L', hpm, hsrt, hrow1, hch1⟩)
    have hl1 : L'.length = L.length := hpm.length_eq
    have hch2 : Chg (SaK w.heap.size) W0 V1 := hch.trans hch1 (fun k _ e => hKown k e)
    have hK1 : V1.heap[D']? = some (.deferred (some [])) := (hch1.block D' hDlt hdq).trans hK
    have hbx1 : Boxed V1 (w.heap.size + 3) 74 (.slice A L.length c) := (hch1.block _ hbx.lt hnsA).trans hbx
    have b1 : Boxed V1 (w.heap.size + 1) 74 (.slice none 0 0) := (hch2.block _ (by omega) (by unfold SaK; omega)).trans k1
    have b2 : Boxed V1 (w.heap.size + 2) 4 (.bool false) := (hch2.block _ (by omega) (by unfold SaK; omega)).trans k2
    have hdv1 := hdv.out V1 hch2
    have hpos : ∀ i, i < L.length → (L'.getD i (FR.zero, Frg.zero)) ∈ L := fun i hi => hpm.mem_iff.1 (by
      rw [List.getD_eq_getElem?_getD, List.getElem?_eq_getElem (by omega)]
      exact List.getElem_mem _)
    have hfs : ∀ i, i < L.length → (L'.map (·.2)).getD i Frg.zero = (L'.getD i (FR.zero, Frg.zero)).2 := fun i hi => by
      rw [List.getD_eq_getElem?_getD, List.getD_eq_getElem?_getD, List.getElem?_map, List.getElem?_eq_getElem (by omega)]
      rfl
    have hrs : ∀ i, i < L.length → (L'.map (·.1)).getD i FR.zero = (L'.getD i (FR.zero, Frg.zero)).1 := fun i hi => by
      rw [List.getD_eq_getElem?_getD, List.getD_eq_getElem?_getD, List.getElem?_map, List.getElem?_eq_getElem (by omega)]
      rfl
    have hfvl : ∀ V', DV V' r d → ∀ i, i < L.length → FV V' (L'.getD i (FR.zero, Frg.zero)).1 (L'.getD i (FR.zero, Frg.zero)).2 := fun V' hV' i hi => hfvp _ (hmemL _ (hpos i hi)) V' hV'
    have hfin : ∀ i, i < L.length → InR (L'.getD i (FR.zero, Frg.zero)).2 := fun i hi => hin _ (hpos i hi)
    have hpmf : (L'.map (·.2)).Perm (neF (d.y :: d.o :: d.fs)) := by rw [← hneg]; exact hpm.map _
    have hFof : ∀ V', DV V' r d → V'.ownsRow (w.heap.size + 5) 24 2 (.slice A L.length c) L.length (frcs (L'.map (·.1))) → FVs V' A L.length c (L'.map (·.1)) (L'.map (·.2)) := fun V' hV' hrow1 => by
      rcases hrow1.2 with ⟨h0, h1⟩ | ⟨g, cap, cur, hv, hb, hgg, hnc, hcm, _⟩
      · injection h0 with e1 e2 e3
        exact ⟨by rw [List.length_map, hl1], by rw [List.length_map, hl1], by omega, by rw [e3]; exact Nat.zero_le _, fun hn => by omega, fun i hi => by omega⟩
      · injection hv with e1 _ e3
        subst e1 e3
        refine ⟨by rw [List.length_map, hl1], by rw [List.length_map, hl1], hnc, hcm, fun hn => ⟨g, 0, rfl, (Array.getElem?_eq_some_iff.1 hgg).1, fun i hi j hj => ?_⟩, fun i hi => by rw [hrs i hi, hfs i hi]; exact hfvl V' hV' i hi⟩
        rw [Nat.zero_add, World.ownsRow.cellAt hrow1 _ (by omega)]
        exact frcs_get _ i j (by rw [List.length_map, hl1]; exact hi) hj
    have hF := hFof V1 hdv1 hrow1
    have hFK : Hid (∀ V', Chg (fun k => k = w.heap.size + 1 ∨ k = w.heap.size + 2) V1 V' → FVs V' A L.length c (L'.map (·.1)) (L'.map (·.2))) := Lib.hid (fun V' hc => hFof V' (hdvB.out V' ((hB0.trans (hKB V1 hch2)).trans (hc.toBelow (fun k hk => by omega) (by have := hch2.size; omega)))) (own_chg hrow1 hc (fun k hk => by omega)))
    have hlen1 : ∀ i, i < L.length → (L'.getD i (FR.zero, Frg.zero)).2.ws.length ≤ 1000 := fun i hi => by
      have h9 := hmemL _ (hpos i hi)
      exact hg _ (List.of_mem_zip h9).2
    have hB1 := hKB V1 hch2
    have HF := Lib.hid (And.intro hF (And.intro (hfvl V1 hdv1) (And.intro hfin (And.intro hlen1 (And.intro hsrt (And.intro hfs hrs))))))
    have HP := Lib.hid hpmf
    have HX := Lib.hid (And.intro hbx1 (And.intro b1 (And.intro b2 (And.intro hK1 (And.intro (hB0.trans hB1) hin)))))
    have hc1 : c ≤ 9223372036854775807 := hF.cm
    have hnc1 : L.length ≤ c := hF.mc
    have hcell := hbx1.cell
    clear hFof hF hfvl hfin hlen1 hsrt hfs hrs hpmf hbx1 b1 b2 hB1 hch2 hch1 hrow1 hrow hbx hns hSo hnsA hdq hKown hmemL hfvp hneg hdv1 hc3 hfull hin hpos hpm hl1 hK hfv hz hdv v0 k1 k2 k3 k4 hKB hB0 hch hcell
    generalize L.length = n at *
    gi_loopw [6] (fun v6 wx => ∃ i q : Nat, 1 ≤ i ∧ (i ≤ n ∨ i = 1) ∧ v6 = .int .i64 (i : Int) ∧ Hid (∀ j, j + 1 < i → (L'.getD j (FR.zero, Frg.zero)).2.at_ + (L'.getD j (FR.zero, Frg.zero)).2.ws.length ≤ (L'.getD (j + 1) (FR.zero, Frg.zero)).2.at_) ∧ wx = V1.drewN q) (fun v6 _ => n + 1 - (intOf v6).toNat)
    case atStart => exact ⟨1, 0, Nat.le_refl _, .inr rfl, rfl, Lib.hid (fun j hj => by omega), rfl⟩
    case round =>
      obtain ⟨i, q, hi1, hi2, rfl, HJ, rfl⟩ := hrel
      obtain ⟨V2, hV2⟩ : ∃ V2, V2 = V1.drewN q := ⟨_, rfl⟩
      have HF2 : FVs V2 A n c (L'.map (·.1)) (L'.map (·.2)) := by rw [hV2]; exact HF.out.1.drewN q
      have x3 : Boxed V2 (w.heap.size + 3) 74 (.slice A n c) := by rw [hV2]; exact HX.out.1
      have x1 : Boxed V2 (w.heap.size + 1) 74 (.slice none 0 0) := by rw [hV2]; exact HX.out.2.1
      have x2 : Boxed V2 (w.heap.size + 2) 4 (.bool false) := by rw [hV2]; exact HX.out.2.2.1
      have hcell := x3.cell
      have hc1 := x1.cell
      have hf1 := x1.frozen
      have hc2 := x2.cell
      have hf2 := x2.frozen
      have HK2 : Hid (V2.heap[D']? = some (.deferred (some []))) := Lib.hid (by rw [hV2]; exact HX.out.2.2.2.1)
      have HB2 : Hid (Below w.heap.size w V2) := Lib.hid (by rw [hV2]; exact below_drewN HX.out.2.2.2.2.1 q)
      have HE : Hid (Boxed V2 (w.heap.size + 1) 74 (.slice none 0 0) ∧ Boxed V2 (w.heap.size + 2) 4 (.bool false)) := Lib.hid ⟨x1, x2⟩
      rw [← hV2]
      replace hV2 := Lib.hid hV2
      clear x1 x2 x3
      by_cases him : i < n
      · have hd1 : decide ((i : Int) < (n : Int)) = true := decide_eq_true (by omega)
        obtain ⟨k, rfl⟩ : ∃ k, i = k + 1 := ⟨i - 1, by omega⟩
        obtain ⟨g, o, hA, _⟩ := HF.out.1.some (by omega)
        subst hA
        obtain ⟨y0, y1⟩ := HF2.at_ (i := k) (by omega)
        obtain ⟨z0, z1⟩ := HF2.at_ (i := k + 1) him
        rw [HF.out.2.2.2.2.2.2 k (by omega)] at y0 y1
        rw [HF.out.2.2.2.2.2.2 (k + 1) him] at z0 z1
        have hk := HF.out.2.1 k (by omega)
        have hk' := HF.out.2.1 (k + 1) him
        have r1 := HF.out.2.2.1 k (by omega)
        have r2 := HF.out.2.2.1 (k + 1) him
        have r3 := HF.out.2.2.2.1 k (by omega)
        have r4 := HF.out.2.2.2.2.1 k (k + 1) (by omega) him
        have e1 := hk.at_
        have e2 := hk'.at_
        have e3 := hk.ws.len
        have hSN := Lib.hid (fun (ho : (L'.getD (k + 1) (FR.zero, Frg.zero)).2.at_ < (L'.getD k (FR.zero, Frg.zero)).2.at_ + (L'.getD k (FR.zero, Frg.zero)).2.ws.length) => sep_no HP.out k (by have := HF.out.1.lef; omega) (by rw [HF.out.2.2.2.2.2.1 k (by omega), HF.out.2.2.2.2.2.1 (k + 1) him]; omega) (by rw [HF.out.2.2.2.2.2.1 k (by omega), HF.out.2.2.2.2.2.1 (k + 1) him]; exact ho))
        obtain ⟨r10, r11⟩ := r1
        obtain ⟨r20, r21⟩ := r2
        obtain ⟨a, ha⟩ : ∃ a, (L'.getD k (FR.zero, Frg.zero)).1.at_ = a := ⟨_, rfl⟩
        obtain ⟨a', ha'⟩ : ∃ a', (L'.getD (k + 1) (FR.zero, Frg.zero)).1.at_ = a' := ⟨_, rfl⟩
        obtain ⟨ln, hln⟩ : ∃ ln, (L'.getD k (FR.zero, Frg.zero)).1.n = ln := ⟨_, rfl⟩
        rw [ha] at y0 e1
        rw [ha'] at z0 e2
        rw [hln] at y1 e3
        replace e1 := Lib.hid e1
        replace e2 := Lib.hid e2
        replace e3 := Lib.hid e3
        have b0 : 0 ≤ a ∧ a ≤ 1125899906842624 := by have := e1.out; omega
        have b1 : 0 ≤ a' ∧ a' ≤ 1125899906842624 := by have := e2.out; omega
        have b2 : ln ≤ 1000 := by have := e3.out; omega
        obtain ⟨b00, b01⟩ := b0
        obtain ⟨b10, b11⟩ := b1
        replace HF2 := Lib.hid HF2
        clear hk hk' r10 r11 r20 r21 r3 r4 ha ha' hln
        by_cases ho : a' < a + (ln : Int)
        · have hd2 : decide (a' < a + (ln : Int)) = true := decide_eq_true ho
          gi_wp2
          gi_quiet (fail)
          gi_wp2
          obtain ⟨z1, z2, z3, z4⟩ := sep_end (v1 := .slice none 0 0) (v2 := .bool false) rfl (show Boxed (V2.drewN nq) _ _ _ from HE.out.1) (show Boxed (V2.drewN nq) _ _ _ from HE.out.2) (show (V2.drewN nq).heap[D']? = _ from HK2.out) (below_drewN HB2.out nq) (by omega)
          refine ⟨by simp, .inl ⟨_, _, rfl, run_takeDeferred z1, ?_⟩⟩
          refine ⟨.tuple #[.slice none 0 0, .bool false], ?_, .inr ⟨rfl, hSN.out (by have := e1.out; have := e2.out; have := e3.out; omega)⟩, z4⟩
          simp [results, Tryz.f29, go_sem, z2, z3]
        · have hd2 : decide (a' < a + (ln : Int)) = false := decide_eq_false ho
          gi_wp2
          gi_quiet (fail)
          gi_wp2
          refine ⟨⟨k + 2, q + nq, by omega, .inl (by omega), by simp; omega, Lib.hid (fun j hj => ?_), by rw [hV2.out]; simp [World.drewN, Nat.add_assoc]⟩, by simp [intOf]; omega⟩
          by_cases hjk : j + 1 < k + 1
          · exact HJ.out j hjk
          · have ej : j = k := by omega
            subst ej
            have := e1.out; have := e2.out; have := e3.out
            omega
      · have hd1 : decide ((i : Int) < (n : Int)) = false := decide_eq_false (by omega)
        replace HF2 := Lib.hid HF2
        gi_wp2
        obtain ⟨z1, z2, z3, z4⟩ := sep_end (v1 := .slice A n c) (v2 := .bool true) rfl HE.out.1 HE.out.2 HK2.out HB2.out (by omega)
        have hch9 : Chg (fun k => k = w.heap.size + 1 ∨ k = w.heap.size + 2) V1 ((V2.setCell ⟨w.heap.size + 1, 0, none⟩ (.slice A n c)).setCell ⟨w.heap.size + 2, 0, none⟩ (.bool true)) := by
          rw [hV2.out]
          exact (((Chg.refl _ V1).drewN q).setCell (p := ⟨w.heap.size + 1, 0, none⟩) (.inl (.inl rfl)) _).setCell (p := ⟨w.heap.size + 2, 0, none⟩) (.inl (.inr rfl)) _
        have hFe := fvs_bk (hFK.out _ hch9) (grownBy_putObj' _ D' (.deferred none)) (fun r' e => by cases e; exact ⟨_, z1, rfl⟩)
        have hy := sep_yes HP.out (fun f hf => by
          obtain ⟨p, hp, e⟩ := List.mem_map.1 (HP.out.mem_iff.2 hf)
          obtain ⟨i, hi, e9⟩ := List.mem_iff_getElem.1 hp
          have h9 := HF.out.2.2.1 i (by have := HF.out.1.lef; rw [List.length_map] at this; omega)
          rw [List.getD_eq_getElem?_getD, List.getElem?_eq_getElem hi, Option.getD_some, e9] at h9
          rw [← e]
          exact h9) (fun j hj => by
          have hjn : j + 1 < n := by have := HF.out.1.lef; omega
          rw [HF.out.2.2.2.2.2.1 j (by omega), HF.out.2.2.2.2.2.1 (j + 1) hjn]
          exact HJ.out j (by omega))
        refine ⟨by simp, .inl ⟨_, _, rfl, run_takeDeferred z1, ?_⟩⟩
        refine ⟨.tuple #[.slice A n c, .bool true], ?_, .inl ⟨A, n, c, _, _, rfl, hFe, by omega, hy.2.1, hy.2.2, hy.1⟩, z4⟩
        simp [results, Tryz.f29, go_sem, z2, z3]
  case stop =>
    rintro D' c pre V hD hpre ⟨⟨rfl, hns, e1, e2⟩, hb⟩ hK
    gi_wp2
    refine ⟨by simp, .inl ⟨_, _, rfl, run_takeDeferred hK, ?_⟩⟩
    have hkk : ∀ r', some D' = some r' → ∃ o : Obj, V.heap[r']? = some o ∧ o.isCells = false := fun r' e => by cases e; exact ⟨_, hK, rfl⟩
    have hc5 := cell_kept e1.cell (grownBy_putObj' _ D' (.deferred none)) hkk
    have hc6 := cell_kept e2.cell (grownBy_putObj' _ D' (.deferred none)) hkk
    refine ⟨.tuple #[.slice none 0 0, .bool false], ?_, .inr ⟨rfl, hns⟩, hb.trans (belowK_b (w := w) (Nat.le_refl _) _ D' _ _ (by omega) hK rfl rfl)⟩
    simp [results, Tryz.f29, go_sem, hc5, hc6]
end Go.Proofs.YtejmmjedognaaaaGreat
