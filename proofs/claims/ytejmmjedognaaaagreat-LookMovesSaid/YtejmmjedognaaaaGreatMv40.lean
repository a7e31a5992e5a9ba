/-
  WHAT EVERY PROGRAM ANSWERS THAT IS ONE: the pair of beehivelaw12.
  PACKAGE look: Handles, where no root is.
  RIGHT DUMPS with other roots; what is reached of fewer roots.
  A DUMP THAT IS MOVED: what its words lead to, and stand for.
  A DUMP THAT IS MOVED is right where the one that was is; as many words are reached.
  A NUMBER BELOW A BOUND: beehivelaw0.Low (without limbs).
-/
import Derived.Test.YtejmmjedognaaaaGreatMv39
import Derived.Test.YtejmmjedognaaaaGreatMv34
namespace Go.Proofs.YtejmmjedognaaaaGreat
open Go.RowKit Go.Shelf
open St

def pd : Dmp := ⟨⟨5, [8, 16]⟩, ⟨0, []⟩, 2, 0, [], [45], []⟩
def pT : Tm := ndT (-1) [nuT 1 1, nuT 1 2]
set_option maxRecDepth 100000 in
theorem pd_rd : Rd (pd.y :: pd.o :: pd.fs) [] 45 pT := ⟨2, by rfl⟩
set_option maxRecDepth 100000 in
theorem pT_wt : pT.wt ≤ 300 := by decide
set_option maxRecDepth 100000 in
theorem pd_o45 : objO (pd.y :: pd.o :: pd.fs) 45 = some (-1, [8, 16]) := by decide
set_option maxRecDepth 100000 in
theorem pd_reach {x : Int} : Rch (pd.y :: pd.o :: pd.fs) [45] x ↔ x = 45 := by
  constructor
  · intro h
    induction h with
    | root h ho => simpa using h
    | step hy hk h ho ih =>
      subst ih
      rw [pd_o45] at hk
      injection hk with hk
      injection hk with h1 h2
      subst h1 h2
      have h8 : ∀ y ∈ ldsO (-1) [8, 16], (objO (pd.y :: pd.o :: pd.fs) y).isSome = false := by decide
      rw [h8 _ h] at ho
      cases ho
  · rintro rfl
    exact .root (by simp) (by rw [pd_o45]; rfl)
set_option maxRecDepth 100000 in
theorem pd_sepa : Sepa (pd.y :: pd.o :: pd.fs) := ⟨by intro f hf; simp [neF, pd] at hf; subst hf; unfold InR; decide, by simp [neF, pd]⟩
set_option maxRecDepth 100000 in
theorem pd_why : whyO (pd.y :: pd.o :: pd.fs) [] pd = ⟨#[]⟩ := by
  refine why_no ⟨pd_sepa, by decide⟩ (fun x hx => ?_) (by decide) ⟨(fun a ha => absurd ha (by simp [pd])), (by simp [pd]), (fun x ws hx ho => ?_)⟩
  · rw [show x = 45 by simpa [pd] using hx]
    exact ⟨pT, pd_rd, pT_wt⟩
  · rw [pd_reach.1 hx, pd_o45] at ho
    injection ho with ho
    injection ho with h1 _
    cases h1
def bd : Dmp := { pd with mark := 3 }
set_option maxRecDepth 100000 in
theorem bd_why : whyO (bd.y :: bd.o :: bd.fs) [] bd = ⟨#[114, 101, 103, 105, 111, 110, 115]⟩ := why_reg (fun h => absurd h.2 (by decide))
set_option maxRecDepth 100000 in
theorem szO_one {gs : List Frg} {roots : List Int} {l : List OR} {x k : Int} {ws : List Int} (h : Rchd gs roots l) (hx : ∀ y, Rch gs roots y ↔ y = x) (ho : objO gs x = some (k, ws)) : szO l = if k = -1 then (ws.length : Int) else 1 + ws.length := by
  have hm : ∀ y, y ∈ l.map (·.x) ↔ y = x := fun y => (h.2 y).trans (hx y)
  rcases l with _ | ⟨p, l⟩
  · exact absurd ((hm x).2 rfl) (by simp)
  · rcases l with _ | ⟨q, l⟩
    · have e : p.x = x := (hm p.x).1 (by simp)
      obtain ⟨_, h1, h2⟩ := h.1.2 p (by simp)
      rw [e, ho] at h1
      injection h1 with h1
      injection h1 with h3 h4
      simp only [szO, szI, List.map_cons, List.map_nil, List.sum_cons, List.sum_nil]
      rw [h2, ← h3, ← h4, Int.add_zero]
    · exfalso
      have e1 : p.x = x := (hm p.x).1 (by simp)
      have e2 : q.x = x := (hm q.x).1 (by simp)
      have := h.1.1
      simp [e1, e2] at this
set_option maxRecDepth 100000 in
theorem pd_live {l : List OR} (h : Rchd (pd.y :: pd.o :: pd.fs) [45] l) : szO l = 2 := (szO_one h (fun y => pd_reach) pd_o45).trans (by decide)

set_option maxRecDepth 100000 in
theorem zs_row {w : World} {b : Nat} {zs : List Int} {cs : Array Value} {t : TypeId} {f : Nat × Nat} {n : Nat} (hb : w.heap[b]? = some (.cells cs t f)) (hc : ∀ j, j < n → cs[j]? = some (.int .u64 (zs.getD j 0))) (hn : zs.length = n) (hm : n ≤ maxLen) (hwf : ∀ x ∈ zs, (Lit.int .u64 x).wf = true) : Zs .u64 w (some ⟨b, 0, none⟩) n n zs :=
  ⟨hn, Nat.le_refl _, hm, hwf, fun _ => ⟨b, 0, rfl, (Array.getElem?_eq_some_iff.1 hb).1, fun j hj => by rw [Nat.zero_add]; exact (cell_of_row w b j _ _ _ hb).trans (hc j hj)⟩⟩
/-- The pair in memory. -/
def pR (S : Nat) (m : Int) : DR := ⟨⟨5, some ⟨S + 1, 0, none⟩, 2, 2⟩, ⟨0, none, 0, 0⟩, 2, m, none, 0, 0, some ⟨S + 2, 0, none⟩, 1, 1, none, 0, 0, []⟩
set_option maxRecDepth 100000 in
theorem FVs.nil (w : World) : FVs w none 0 0 [] [] := ⟨rfl, rfl, by omega, by decide, fun h => absurd h (by omega), fun i hi => absurd hi (by omega)⟩
set_option maxRecDepth 100000 in
theorem pd_dv {w : World} {S : Nat} (h1 : w.heap[S + 1]? = some (.cells #[.int .u64 8, .int .u64 16] 30 (0, 0))) (h2 : w.heap[S + 2]? = some (.cells #[.int .u64 45] 30 (0, 0))) : DV w (pR S 0) pd := by
  refine ⟨⟨rfl, by decide, ?_⟩, ⟨rfl, by decide, Zs.nil _ _⟩, rfl, rfl, by decide, by decide, FVs.nil w, ?_, Zs.nil _ _⟩
  · exact zs_row (n := 2) h1 (fun j hj => match j, hj with | 0, _ => rfl | 1, _ => rfl) rfl (by decide) (by decide)
  · exact zs_row (n := 1) h2 (fun j hj => match j, hj with | 0, _ => rfl) rfl (by decide) (by decide)
set_option maxRecDepth 100000 in
theorem bd_dv {w : World} {S : Nat} (h : DV w (pR S 0) pd) : DV w (pR S 3) bd := ⟨h.y, h.o, h.size, rfl, h.wfs, by decide, h.fs, h.roots, h.hs⟩
set_option maxRecDepth 100000 in
set_option maxRecDepth 100000 in
set_option maxHeartbeats 4000000 in
theorem pair_any (w : World) : Calls Tryz.prog 25 #[] w fun e w' => ∃ S, e = .returned (.agg #[.int .i64 5, .slice (some ⟨S + 1, 0, none⟩) 2 2, .int .i64 0, .slice none 0 0, .int .i64 2, .int .i64 0, .slice none 0 0, .slice (some ⟨S + 2, 0, none⟩) 1 1, .slice none 0 0]) ∧ DV w' (pR S 0) pd ∧ Below w.heap.size w w' := by
  go_enter Tryz.func25, Tryz.ntmps25
  go_wp2
  generalize hS : w.heap.size = S at *
  obtain ⟨W, hW⟩ : ∃ W, W = ((w.alloc (.cells #[.int .i64 5, .slice (some ⟨S + 1, 0, none⟩) 2 2, .int .i64 0, .slice none 0 0, .int .i64 2, .int .i64 0, .slice none 0 0, .slice (some ⟨S + 1 + 1, 0, none⟩) 1 1, .slice none 0 0] 28)).alloc (.cells #[.int .u64 8, .int .u64 16] 30)).alloc (.cells #[.int .u64 45] 30) := ⟨_, rfl⟩
  rw [← hW]
  have hb : Below S w W := by rw [hW, ← hS]; exact (((Below.refl _ w).alloc (Nat.le_refl _) _).alloc (by simp) _).alloc (by simp; omega) _
  have h0 : Bx W S (pR S 0) := ⟨by
    rw [hW, ← hS, Below.heap_alloc _ _ _ (by simp; omega), Below.heap_alloc _ _ _ (by simp)]
    exact heap_alloc_new w _⟩
  have h1 : W.heap[S + 1]? = some (.cells #[.int .u64 8, .int .u64 16] 30 (0, 0)) := by
    rw [hW, ← hS, Below.heap_alloc _ _ _ (by simp)]
    have := heap_alloc_new (w.alloc (.cells #[.int .i64 5, .slice (some ⟨w.heap.size + 1, 0, none⟩) 2 2, .int .i64 0, .slice none 0 0, .int .i64 2, .int .i64 0, .slice none 0 0, .slice (some ⟨w.heap.size + 1 + 1, 0, none⟩) 1 1, .slice none 0 0] 28)) (.cells #[.int .u64 8, .int .u64 16] 30)
    simpa using this
  have h2 : W.heap[S + 2]? = some (.cells #[.int .u64 45] 30 (0, 0)) := by
    rw [hW, ← hS]
    have := heap_alloc_new ((w.alloc (.cells #[.int .i64 5, .slice (some ⟨w.heap.size + 1, 0, none⟩) 2 2, .int .i64 0, .slice none 0 0, .int .i64 2, .int .i64 0, .slice none 0 0, .slice (some ⟨w.heap.size + 1 + 1, 0, none⟩) 1 1, .slice none 0 0] 28)).alloc (.cells #[.int .u64 8, .int .u64 16] 30)) (.cells #[.int .u64 45] 30)
    simpa using this
  clear hW
  have q0 := h0.c0
  have q1 := h0.c1
  have q2 := h0.c2
  have q3 := h0.c3
  have q4 := h0.c4
  have q5 := h0.c5
  have q6 := h0.c6
  have q7 := h0.c7
  have q8 := h0.c8
  simp only [pR] at q0 q1 q2 q3 q4 q5 q6 q7 q8
  refine bodyPost_ret (v := .agg #[.int .i64 5, .slice (some ⟨S + 1, 0, none⟩) 2 2, .int .i64 0, .slice none 0 0, .int .i64 2, .int .i64 0, .slice none 0 0, .slice (some ⟨S + 2, 0, none⟩) 1 1, .slice none 0 0]) (by simp [results, Tryz.results25, go_sem, q0, q1, q2, q3, q4, q5, q6, q7, q8]) rfl ?_
  exact ⟨S, rfl, pd_dv h1 h2, hb⟩
set_option maxRecDepth 100000 in
theorem sls_nil (w : World) : SLs w none 0 0 [] := ⟨rfl, Nat.le_refl _, by decide, fun i hi => absurd hi (by omega), fun h => absurd h (by omega)⟩
set_option maxRecDepth 100000 in
theorem pd_sm : ∀ f ∈ pd.y :: pd.o :: pd.fs, f.ws.length ≤ 1000 := by decide
set_option maxRecDepth 100000 in
theorem read_pair {w : World} {S : Nat} (h : DV w (pR S 0) pd) : Calls Tryz.prog 10 #[.agg #[.int .i64 5, .slice (some ⟨S + 1, 0, none⟩) 2 2, .int .i64 0, .slice none 0 0, .int .i64 2, .int .i64 0, .slice none 0 0, .slice (some ⟨S + 2, 0, none⟩) 1 1, .slice none 0 0], .slice none 0 0, .int .u64 45] w fun e w' =>
    ∃ n g A ln lc u s b o d, e = .returned (.tuple #[.agg #[.int .i64 8, .int .i64 n, .bool g, .slice A ln lc, .int .u64 u, .string s, .slice (some ⟨b, o, none⟩) 2 d], .bool true]) ∧ w'.cell? ⟨b, o + 7 + 1, none⟩ = some (.int .i64 2) ∧ 2 ≤ d ∧ Below w.heap.size w w' := by
  refine (read_any h (by simp [pR]) pd_sm (sls_nil w) (by decide) 45 (by unfold Wd; decide)).mono ?_
  rintro e w' ⟨⟨t, R, hr, _, rfl, tv, _⟩ | ⟨hno, _⟩, hb⟩
  · rw [hr.det pd_rd] at tv
    have hk := tv.tv.kind
    have hl := tv.tv.len
    obtain ⟨b, o, r, t', hB, _, h7, ht, tv2⟩ := tv.tv.args.get 1 (by rw [← hl]; decide)
    have hd := tv.tv.args.md
    have e2 : r.n = 2 := by
      have := tv2.num
      rw [show t' = nuT 1 2 by simpa [pT, ndT, Tm.args] using ht.symm] at this
      exact this.symm
    obtain ⟨k, n, g, A, ln, lc, u, s, B, m, d⟩ := R
    simp only at hk hl hB hd
    subst hB
    have hk : k = 8 := hk.symm
    have hl : m = 2 := hl.symm
    subst hk hl
    refine ⟨n, g, A, ln, lc, u, s, b, o, d, rfl, ?_, hd, hb⟩
    have := h7.c1
    rw [e2] at this
    exact this
  · exact absurd (hno pT pd_rd) (by have := pT_wt; omega)
set_option maxRecDepth 100000 in
theorem why_pair {w : World} {S : Nat} (h : DV w (pR S 0) pd) : Calls Tryz.prog 12 #[.agg #[.int .i64 5, .slice (some ⟨S + 1, 0, none⟩) 2 2, .int .i64 0, .slice none 0 0, .int .i64 2, .int .i64 0, .slice none 0 0, .slice (some ⟨S + 2, 0, none⟩) 1 1, .slice none 0 0], .slice none 0 0] w fun e w' => e = .returned (.string ⟨#[]⟩) ∧ Below w.heap.size w w' := by
  have := why_any h (by simp [pR]) pd_sm (by simp [pR]) (by simp [pR]) (sls_nil w) (by decide)
  rw [pd_why] at this
  exact this
set_option maxRecDepth 100000 in
theorem why_bad {w : World} {S : Nat} (h : DV w (pR S 0) pd) : Calls Tryz.prog 12 #[.agg #[.int .i64 5, .slice (some ⟨S + 1, 0, none⟩) 2 2, .int .i64 0, .slice none 0 0, .int .i64 2, .int .i64 3, .slice none 0 0, .slice (some ⟨S + 2, 0, none⟩) 1 1, .slice none 0 0], .slice none 0 0] w fun e w' => e = .returned (.string ⟨#[114, 101, 103, 105, 111, 110, 115]⟩) ∧ Below w.heap.size w w' := by
  have := why_any (bd_dv h) (by simp [pR]) pd_sm (by simp [pR]) (by simp [pR]) (sls_nil w) (by decide)
  rw [bd_why] at this
  exact this
set_option maxRecDepth 100000 in
theorem live_pair {w : World} {S : Nat} (h : DV w (pR S 0) pd) : Calls Tryz.prog 19 #[.agg #[.int .i64 5, .slice (some ⟨S + 1, 0, none⟩) 2 2, .int .i64 0, .slice none 0 0, .int .i64 2, .int .i64 0, .slice none 0 0, .slice (some ⟨S + 2, 0, none⟩) 1 1, .slice none 0 0]] w fun e w' => e = .returned (.int .i64 2) ∧ Below w.heap.size w w' := by
  refine (live_any h (by simp [pR]) pd_sm (by simp [pR])).mono ?_
  rintro e w' ⟨gs', l, hg, hR, rfl, hb⟩
  rcases hg with ⟨_, rfl⟩ | ⟨hn, _⟩
  · exact ⟨by rw [pd_live hR], hb⟩
  · exact absurd pd_sepa hn
set_option maxRecDepth 100000 in
set_option maxRecDepth 100000 in
set_option maxHeartbeats 400000 in
theorem awake12_any (w : World) : Calls Tryz.prog 8 #[] w fun e w' => e = .returned (.bool true) ∧ Below w.heap.size w w' := by
  go_enter Tryz.func8, Tryz.ntmps8
  go_upto_region 1 with fail
  go_upto_region 2 with (first
    | (go_at_call 25; refine (pair_any _).mono ?_; rintro e w1 ⟨S1, rfl, hd1, hb1⟩)
    | (go_at_call 10; refine (read_pair hd1).mono ?_; rintro e w2 ⟨n, g, A, ln, lc, u, s, b, o, d, rfl, hc2, hd2, hb2⟩))
  have hT : (w2.alloc (.cells #[.int .i64 8, .int .i64 n, .bool g, .slice A ln lc, .int .u64 u, .string s, .slice (some ⟨b, o, none⟩) 2 d] 40)).heap[w2.heap.size]? = some (.cells #[.int .i64 8, .int .i64 n, .bool g, .slice A ln lc, .int .u64 u, .string s, .slice (some ⟨b, o, none⟩) 2 d] 40 (0, 0)) := heap_alloc_new w2 _
  have ha2 : Below w2.heap.size w2 (w2.alloc (.cells #[.int .i64 8, .int .i64 n, .bool g, .slice A ln lc, .int .u64 u, .string s, .slice (some ⟨b, o, none⟩) 2 d] 40)) := (Below.refl _ w2).alloc (Nat.le_refl _) _
  have hc3 := (ha2.cell (p := ⟨b, o + 7 + 1, none⟩) (World.block_lt_of_cell? w2 _ hc2)).trans hc2
  have h12 := hb1.trans (hb2.mono hb1.size)
  have hb3 := Lib.hid (h12.trans (ha2.mono h12.size))
  clear hc2 ha2 h12 hb1 hb2 hd1
  generalize w2.alloc (.cells #[.int .i64 8, .int .i64 n, .bool g, .slice A ln lc, .int .u64 u, .string s, .slice (some ⟨b, o, none⟩) 2 d] 40) = w3 at *
  generalize w2.heap.size = G at *
  go_upto_region 3 with (go_at_call 25; refine (pair_any _).mono ?_; rintro e w4 ⟨S4, rfl, hd4, hb4⟩)
  go_upto_region 4 with fail
  have a4 : Below w4.heap.size w4 (w4.alloc (.cells #[.int .i64 5, .slice (some ⟨S4 + 1, 0, none⟩) 2 2, .int .i64 0, .slice none 0 0, .int .i64 2, .int .i64 3, .slice none 0 0, .slice (some ⟨S4 + 2, 0, none⟩) 1 1, .slice none 0 0] 28)) := (Below.refl _ w4).alloc (Nat.le_refl _) _
  have bx5 : Bx (w4.alloc (.cells #[.int .i64 5, .slice (some ⟨S4 + 1, 0, none⟩) 2 2, .int .i64 0, .slice none 0 0, .int .i64 2, .int .i64 3, .slice none 0 0, .slice (some ⟨S4 + 2, 0, none⟩) 1 1, .slice none 0 0] 28)) w4.heap.size (pR S4 3) := ⟨heap_alloc_new w4 _⟩
  have h34 := hb4.trans (a4.mono hb4.size)
  have hT5 := (h34.block G (Array.getElem?_eq_some_iff.1 hT).1).trans hT
  have hc5 := (h34.cell (p := ⟨b, o + 7 + 1, none⟩) (World.block_lt_of_cell? w3 _ hc3)).trans hc3
  have hb5 := Lib.hid (hb3.out.trans (h34.mono hb3.out.size))
  have hd5 := Lib.hid (hd4.below a4)
  clear a4 h34 hT hc3 hb3 hb4 hd4
  generalize w4.alloc (.cells #[.int .i64 5, .slice (some ⟨S4 + 1, 0, none⟩) 2 2, .int .i64 0, .slice none 0 0, .int .i64 2, .int .i64 3, .slice none 0 0, .slice (some ⟨S4 + 2, 0, none⟩) 1 1, .slice none 0 0] 28) = w5 at *
  generalize w4.heap.size = E at *
  replace bx5 := Lib.hid bx5
  have hc := Lib.hid (Below.refl w5.heap.size w5)
  have u0 : w5.cell? ⟨G, 0, none⟩ = some (.int .i64 8) := (cell_of_row w5 G 0 _ _ (0, 0) hT5).trans rfl
  have u6 : w5.cell? ⟨G, 6, none⟩ = some (.slice (some ⟨b, o, none⟩) 2 d) := (cell_of_row w5 G 6 _ _ (0, 0) hT5).trans rfl
  clear hT5
  have bk := bx5.out
  have q0 := bk.c0; have q1 := bk.c1; have q2 := bk.c2; have q3 := bk.c3; have q4 := bk.c4; have q5 := bk.c5; have q6 := bk.c6; have q7 := bk.c7; have q8 := bk.c8; simp only [pR] at q0 q1 q2 q3 q4 q5 q6 q7 q8; clear bk
  go_wp2_with (first
    | (go_at_call 25; (with_reducible refine (pair_any _).mono ?_); rintro e w6 ⟨S6, rfl, hd6, hb6⟩; replace hd6 := Lib.hid hd6; replace hc := Lib.hid (hc.out.trans (hb6.mono hc.out.size)); clear hb6; clear q0 q1 q2 q3 q4 q5 q6 q7 q8; have bk := bx5.out.below hc.out bx5.out.lt; have q0 := bk.c0; have q1 := bk.c1; have q2 := bk.c2; have q3 := bk.c3; have q4 := bk.c4; have q5 := bk.c5; have q6 := bk.c6; have q7 := bk.c7; have q8 := bk.c8; simp only [pR] at q0 q1 q2 q3 q4 q5 q6 q7 q8; clear bk)
    | (go_at_call 12; (with_reducible refine (why_pair hd6.out).mono ?_); rintro e w7 ⟨rfl, hb7⟩; replace hc := Lib.hid (hc.out.trans (hb7.mono hc.out.size)); clear hb7; clear q0 q1 q2 q3 q4 q5 q6 q7 q8; have bk := bx5.out.below hc.out bx5.out.lt; have q0 := bk.c0; have q1 := bk.c1; have q2 := bk.c2; have q3 := bk.c3; have q4 := bk.c4; have q5 := bk.c5; have q6 := bk.c6; have q7 := bk.c7; have q8 := bk.c8; simp only [pR] at q0 q1 q2 q3 q4 q5 q6 q7 q8; clear bk)
    | (go_at_call 12; (with_reducible refine (why_bad (hd5.out.below hc.out)).mono ?_); rintro e w7 ⟨rfl, hb7⟩; replace hc := Lib.hid (hc.out.trans (hb7.mono hc.out.size)); clear hb7; clear q0 q1 q2 q3 q4 q5 q6 q7 q8; have bk := bx5.out.below hc.out bx5.out.lt; have q0 := bk.c0; have q1 := bk.c1; have q2 := bk.c2; have q3 := bk.c3; have q4 := bk.c4; have q5 := bk.c5; have q6 := bk.c6; have q7 := bk.c7; have q8 := bk.c8; simp only [pR] at q0 q1 q2 q3 q4 q5 q6 q7 q8; clear bk)
    | (go_at_call 19; (with_reducible refine (live_pair hd6.out).mono ?_); rintro e w8 ⟨rfl, hb8⟩; replace hc := Lib.hid (hc.out.trans (hb8.mono hc.out.size)); clear hb8))
  go_ret
  exact ⟨rfl, hb5.out.trans (hc.out.mono hb5.out.size)⟩
end Go.Proofs.YtejmmjedognaaaaGreat

namespace Go.Proofs.YtejmmjedognaaaaGreat
open Go.RowKit Go.Shelf
open St

set_option maxRecDepth 100000 in
set_option maxRecDepth 100000 in
set_option maxHeartbeats 2000000 in
theorem ins0 {A : Option Addr} {c : Nat} {w : World} :
    Calls Tryz.prog 102 #[.slice A 0 c, .int .i64 0, .int .i64 0] w fun e w' => e = .returned (.tuple #[]) ∧ w' = w := by
  go_enter Tryz.func102, Tryz.ntmps102
  go_wp2
  refine wp_loop_rounds 1 ?_
  rw [rounds_succ]
  go_wp2
  go_end0
  exact ⟨rfl, rfl⟩
set_option maxRecDepth 100000 in
set_option maxRecDepth 100000 in
set_option maxHeartbeats 2000000 in
theorem pdq0 {A : Option Addr} {c : Nat} {w : World} (lim : Int) :
    Calls Tryz.prog 76 #[.slice A 0 c, .int .i64 0, .int .i64 0, .int .i64 lim] w fun e w' => e = .returned (.tuple #[]) ∧ w' = w := by
  go_enter Tryz.func76, Tryz.ntmps76
  go_wp2
  refine wp_loop_rounds 1 ?_
  rw [rounds_succ]
  go_wp2_with (go_at_call 102; refine ins0.mono ?_; rintro e w' ⟨rfl, rfl⟩)
  (try simp only [Exit.inBlock, Exit.then]); refine bodyPost_ret (results_none rfl _ _ _) rfl ?_
  exact ⟨rfl, rfl⟩
set_option maxRecDepth 100000 in
set_option maxRecDepth 100000 in
set_option maxHeartbeats 2000000 in
theorem sort0 {A : Option Addr} {c : Nat} {w : World} :
    Calls Tryz.prog 45 #[.slice A 0 c] w fun e w' => e = .returned (.tuple #[]) ∧ w' = w := by
  have HB := Lib.hid (bits_any 0 (by omega))
  go_enter Tryz.func45, Tryz.ntmps45
  go_wp2_with (first
    | (go_at_call 77; refine (HB.out _).mono ?_; rintro e w' ⟨⟨l, rfl⟩, rfl⟩)
    | (go_at_call 76; refine (pdq0 _).mono ?_; rintro e w' ⟨rfl, rfl⟩))
  go_end0
  exact ⟨rfl, rfl⟩
set_option maxRecDepth 100000 in
theorem rchd_nil {gs : List Frg} {l : List OR} (h : Rchd gs [] l) : l = [] := by
  rcases l with _ | ⟨p, l⟩
  · rfl
  · exfalso
    have h1 := (h.2 p.x).1 (by simp)
    have h2 : ∀ x, Rch gs [] x → False := fun x hx => by
      induction hx with
      | root h _ => cases h
      | step _ _ _ _ ih => exact ih
    exact h2 _ h1
set_option maxRecDepth 100000 in
set_option maxRecDepth 100000 in
set_option maxHeartbeats 4000000 in
theorem handles_nil {w : World} {r : DR} {d : Dmp} (h : DV w r d) (hm : r.fm ≤ 6) (hgs0 : ∀ f ∈ d.y :: d.o :: d.fs, f.ws.length ≤ 1000) (hr : d.roots = []) :
    Calls Tryz.prog 18 #[.agg #[.int .i64 r.y.at_, .slice r.y.A r.y.n r.y.c, .int .i64 r.o.at_, .slice r.o.A r.o.n r.o.c, .int .i64 r.size, .int .i64 r.mark, .slice r.F r.fm r.fc, .slice r.R r.rm r.rc, .slice r.H r.hm r.hc]] w fun e w' => (∃ A c, e = .returned (.slice A 0 c)) ∧ Below w.heap.size w w' := by
  obtain ⟨wa, hwa⟩ : ∃ wa, wa = w.alloc (.cells #[.int .i64 r.y.at_, .slice r.y.A r.y.n r.y.c, .int .i64 r.o.at_, .slice r.o.A r.o.n r.o.c, .int .i64 r.size, .int .i64 r.mark, .slice r.F r.fm r.fc, .slice r.R r.rm r.rc, .slice r.H r.hm r.hc] 28) := ⟨_, rfl⟩
  have hba : Below w.heap.size w wa := by rw [hwa]; exact (Below.refl _ w).alloc (Nat.le_refl _) _
  have bxa : Bx wa w.heap.size r := ⟨by rw [hwa]; exact heap_alloc_new w _⟩
  have hS := Lib.hid (sepq_any (h.below hba) hm hgs0)
  have hgl : ∀ gs', sepG (d.y :: d.o :: d.fs) gs' → gs'.length ≤ 8 ∧ ∀ f ∈ gs', f.ws.length ≤ 1000 := fun gs' hsg => by
    obtain ⟨h1, h2⟩ := sepG_sub hsg
    have h3 := h.fs.lef
    simp only [List.length_cons] at h1
    exact ⟨by omega, fun f hf => hgs0 f (h2 f hf)⟩
  have hrm : r.rm ≤ 1000 := by
    have := h.roots.len
    rw [hr] at this
    simp at this
    omega
  have HZ : Hid (∀ w', Below wa.heap.size wa w' → Zs .u64 w' r.R r.rm r.rc []) := Lib.hid (fun w' hb => by
    have := (h.roots.below hba).below hb
    rw [hr] at this
    exact this)
  have HG := Lib.hid hgl
  clear h hgs0 hr hgl
  go_enter Tryz.func18, Tryz.ntmps18
  go_upto_region 1 with fail
  rw [← hwa]
  clear hwa
  have q0 := bxa.c0
  have q1 := bxa.c1
  have q2 := bxa.c2
  have q3 := bxa.c3
  have q4 := bxa.c4
  have q5 := bxa.c5
  have q6 := bxa.c6
  have q7 := bxa.c7
  have q8 := bxa.c8
  go_wp2_with (first
    | (go_at_call 29; (with_reducible refine hS.out.mono ?_); rintro e w1 ⟨gs, A1, n1, c1, ok, rfl, hsg, hok, hM, hb1⟩; clear q0 q1 q2 q3 q4 q5 q6 q7 q8; have q7 := (bxa.below hb1 bxa.lt).c7; replace hb1 := Lib.hid hb1; replace hM := Lib.hid hM; replace hsg := Lib.hid hsg)
    | (go_at_call 44; refine (rh_any hM.out (HG.out _ hsg.out).2 (HG.out _ hsg.out).1 (HZ.out _ hb1.out) hrm).mono ?_; rintro e w2 ⟨A2, c2, l, rfl, hRl, hrw, hb2⟩; rw [rchd_nil hRl]; replace hb2 := Lib.hid hb2; clear hRl hrw; rw [show ((hdO []).length : Nat) = 0 from rfl])
    | (go_at_call 45; refine sort0.mono ?_; rintro e w3 ⟨rfl, rfl⟩))
  go_ret
  exact ⟨⟨_, _, rfl⟩, hba.trans ((hb1.out.trans (hb2.out.mono hb1.out.size)).mono hba.size)⟩
end Go.Proofs.YtejmmjedognaaaaGreat

namespace Go.Proofs.YtejmmjedognaaaaGreat
open Go.RowKit Go.Shelf
open St

set_option maxRecDepth 100000 in
theorem why_yes {gs : List Frg} {S : List Slt} {d : Dmp} (h : whyO gs S d = ⟨#[]⟩) : (Sepa gs ∧ msB d = true) ∧ RtsOk gs S d.roots ∧ clR d.o = true ∧ HdOk gs S d.roots d.hs := by
  unfold whyO at h
  split at h
  · exact absurd h (by decide)
  · next h1 =>
    split at h
    · exact absurd h (by decide)
    · next h2 =>
      split at h
      · exact absurd h (by decide)
      · next h3 =>
        split at h
        · exact absurd h (by decide)
        · next h4 => exact ⟨Classical.not_not.1 h1, Classical.not_not.1 h2, by simpa using h3, Classical.not_not.1 h4⟩
set_option maxRecDepth 100000 in
theorem rch_mono {gs : List Frg} {r1 r2 : List Int} (h : ∀ x ∈ r1, x ∈ r2) {x : Int} (hx : Rch gs r1 x) : Rch gs r2 x := by
  induction hx with
  | root hr ho => exact .root (h _ hr) ho
  | step _ hk hm ho ih => exact .step ih hk hm ho
set_option maxRecDepth 100000 in
theorem why_sub {gs : List Frg} {S : List Slt} {d : Dmp} (h : whyO gs S d = ⟨#[]⟩) (rs : List Int) (hr : ∀ x ∈ rs, x ∈ d.roots) : whyO gs S { d with roots := rs } = ⟨#[]⟩ := by
  obtain ⟨h1, h2, h3, h4⟩ := why_yes h
  exact why_no (d := { d with roots := rs }) ⟨h1.1, h1.2⟩ (fun x hx => h2 x (hr x hx)) h3 ⟨h4.1, h4.2.1, fun x ws hx ho => h4.2.2 x ws (rch_mono hr hx) ho⟩
/-- How many words the object holds that a word leads to. -/
def szX (gs : List Frg) (x : Int) : Int := match objO gs x with
  | some (k, ws) => if k = -1 then (ws.length : Int) else 1 + ws.length
  | none => 0
set_option maxRecDepth 100000 in
theorem szX_pos (gs : List Frg) (x : Int) : 0 ≤ szX gs x := by
  unfold szX
  split
  · split <;> omega
  · omega
set_option maxRecDepth 100000 in
theorem szO_x {gs : List Frg} : ∀ {l : List OR}, (∀ p ∈ l, objO gs p.x = some (p.k, p.ws) ∧ p.n = p.ws.length) → szO l = ((l.map (·.x)).map (szX gs)).sum
  | [], _ => rfl
  | p :: l, h => by
    obtain ⟨h1, h2⟩ := h p (by simp)
    have e : szO (p :: l) = szI p + szO l := by simp [szO]
    rw [e, szO_x (fun q hq => h q (by simp [hq]))]
    simp only [List.map_cons, List.sum_cons]
    congr 1
    unfold szX szI
    rw [h1, h2]
set_option maxRecDepth 100000 in
theorem sum_pos {f : Int → Int} (hf : ∀ x, 0 ≤ f x) : ∀ b : List Int, 0 ≤ (b.map f).sum
  | [] => by simp
  | x :: b => by simp only [List.map_cons, List.sum_cons]; have := hf x; have := sum_pos hf b; omega
set_option maxRecDepth 100000 in
theorem perm_sum {a b : List Int} (h : a.Perm b) : a.sum = b.sum := by
  induction h with
  | nil => rfl
  | cons x _ ih => simp only [List.sum_cons]; omega
  | swap x y l => simp only [List.sum_cons]; omega
  | trans _ _ h1 h2 => omega
set_option maxRecDepth 100000 in
theorem sum_sub {f : Int → Int} (hf : ∀ x, 0 ≤ f x) : ∀ {a b : List Int}, a.Nodup → (∀ x ∈ a, x ∈ b) → (a.map f).sum ≤ (b.map f).sum
  | [], b, _, _ => sum_pos hf b
  | x :: a, b, hn, hs => by
    obtain ⟨hx, hn⟩ := List.nodup_cons.1 hn
    have hb : x ∈ b := hs x (by simp)
    have e := perm_sum ((List.perm_cons_erase hb).map f)
    rw [e]
    simp only [List.map_cons, List.sum_cons]
    have := sum_sub hf (b := b.erase x) hn (fun y hy => (List.mem_erase_of_ne (fun e => hx (by rw [← e]; exact hy))).2 (hs y (by simp [hy])))
    omega
set_option maxRecDepth 100000 in
theorem szO_le {gs : List Frg} {r1 r2 : List Int} (h : ∀ x ∈ r1, x ∈ r2) {l1 l2 : List OR} (h1 : Rchd gs r1 l1) (h2 : Rchd gs r2 l2) : szO l1 ≤ szO l2 := by
  rw [szO_x (fun p hp => (h1.1.2 p hp).2), szO_x (fun p hp => (h2.1.2 p hp).2)]
  exact sum_sub (szX_pos gs) h1.1.1 (fun x hx => (h2.2 x).2 (rch_mono h ((h1.2 x).1 hx)))
set_option maxRecDepth 100000 in
theorem rd_kind {gs : List Frg} {S : List Slt} {x : Int} {t : Tm} (h : Rd gs S x t) : t.kind ≠ 0 := by
  obtain ⟨n, h⟩ := h
  rcases n with _ | n
  · simp [rdF] at h
  · unfold rdF at h
    by_cases h1 : plB x = false
    · rw [if_pos h1] at h; cases h
    · rw [if_neg h1] at h
      by_cases h2 : x % 8 = 0
      · rw [if_pos h2] at h; injection h with h; subst h; simp [nuT, Tm.kind]
      · rw [if_neg h2] at h
        by_cases h3 : x % 8 = 1
        · rw [if_pos h3] at h; injection h with h; subst h; simp [nuT, Tm.kind]
        · rw [if_neg h3] at h
          by_cases h4 : x % 8 = 2
          · rw [if_pos h4] at h; injection h with h; subst h; simp [nuT, Tm.kind]
          · rw [if_neg h4] at h
            by_cases h5 : x % 8 = 3
            · rw [if_pos h5] at h; injection h with h; subst h; simp [nuT, Tm.kind]
            · rw [if_neg h5] at h
              cases h6 : objO gs x with
              | none => rw [h6] at h; cases h
              | some p =>
                obtain ⟨k, ws⟩ := p
                rw [h6] at h
                simp only at h
                by_cases hk : k = -1 ∨ k = 0
                · rw [if_pos hk, Option.map_eq_some_iff] at h
                  obtain ⟨ts, _, rfl⟩ := h
                  unfold ndT Tm.kind
                  simp only
                  split <;> simp
                · rw [if_neg hk] at h
                  unfold lfO at h
                  split at h
                  · injection h with h; subst h; simp [bgT, Tm.kind]
                  · split at h
                    · injection h with h; subst h; simp [flT, Tm.kind]
                    · split at h
                      · injection h with h; subst h; simp [biT, Tm.kind]
                      · cases h
end Go.Proofs.YtejmmjedognaaaaGreat

namespace Go.Proofs.YtejmmjedognaaaaGreat
open Go.RowKit Go.Shelf
open St

/-- A pointer, so much further. -/
def mvZ (by_ x : Int) : Int := if (x % 8 = 4 ∨ x % 8 = 5) ∧ ldZ x ≤ 1125899906842624 then x + by_ * 8 else x
/-- One region with words, the old one without. -/
def mgs (a oa : Int) (ws : List Int) : List Frg := [⟨a, ws⟩, ⟨oa, []⟩]
section
variable {a oa b : Int} {ws : List Int} (ha : 0 ≤ a ∧ a ≤ 1099511627776) (hb : 0 ≤ b ∧ b ≤ 1000) (hw : ws.length ≤ 60) (hwd : ∀ x ∈ ws, Wd x)
  (hh : ∀ x ∈ ws, ptB x = true → x / 8 % 8 = 0)
set_option maxRecDepth 100000 in
theorem mv_tag (b x : Int) : mvZ b x % 8 = x % 8 := by unfold mvZ; split <;> omega
set_option maxRecDepth 100000 in
theorem box_cons (x h : Int) (t : List Int) : boxZ x (h :: t) = if x % 8 = 4 ∧ ptB h = true ∧ h / 64 ≤ (t.length : Int) then some (h / 8 % 8, t.take (h / 64).toNat) else none := rfl
set_option maxRecDepth 100000 in
theorem m_at (ha : 0 ≤ a) (v : Int) : atL (mgs a oa ws) v = if a ≤ v ∧ v - a < (ws.length : Int) then ws.drop (v - a).toNat else [] := by
  unfold mgs atL
  by_cases h : a ≤ v ∧ v - a < (ws.length : Int)
  · rw [if_pos h, if_pos ⟨ha, h.1, h.2⟩]
  · rw [if_neg h, if_neg (fun e => h ⟨e.2.1, e.2.2⟩)]
    unfold atL
    rw [if_neg (by simp), atL]
include ha hb hw
set_option maxRecDepth 100000 in
/-- Where a pointer leads to, and where it does when all is moved. -/
theorem m_move {x : Int} (ht : x % 8 = 4 ∨ x % 8 = 5) : atL (mgs (a + b) oa (ws.map (mvZ b))) (ldZ (mvZ b x)) = (atL (mgs a oa ws) (ldZ x)).map (mvZ b) := by
  have e0 : ldZ x = x / 8 := by unfold ldZ; rw [if_neg (by omega)]
  rw [m_at (a := a + b) (by omega), m_at ha.1, List.length_map]
  by_cases h : ldZ x ≤ 1125899906842624
  · have e1 : mvZ b x = x + b * 8 := by unfold mvZ; rw [if_pos ⟨ht, h⟩]
    have e2 : ldZ (x + b * 8) = x / 8 + b := by unfold ldZ; rw [if_neg (by omega)]; omega
    rw [e1, e2, e0]
    by_cases h2 : a ≤ x / 8 ∧ x / 8 - a < (ws.length : Int)
    · rw [if_pos h2, if_pos (by omega), show x / 8 + b - (a + b) = x / 8 - a by omega, List.map_drop]
    · rw [if_neg h2, if_neg (by omega)]
      rfl
  · have e1 : mvZ b x = x := by unfold mvZ; rw [if_neg (fun e => h e.2)]
    rw [e1]
    rw [e0] at h ⊢
    rw [if_neg (by omega), if_neg (by omega)]
    rfl
end
set_option maxRecDepth 100000 in
theorem mv_head {b x : Int} (h : ptB x = true) : mvZ b x = x := by
  unfold ptB at h
  rw [Bool.and_eq_true, decide_eq_true_eq] at h
  unfold mvZ
  rw [if_neg (by omega)]
set_option maxRecDepth 100000 in
theorem mv_pt (b x : Int) : ptB (mvZ b x) = ptB x := by
  by_cases h : ptB x = true
  · rw [mv_head h]
  · have h1 : ptB x = false := by simpa using h
    by_cases h6 : x % 8 = 6
    · have : mvZ b x = x := by unfold mvZ; rw [if_neg (by omega)]
      rw [this]
    · rw [h1]
      unfold ptB
      rw [mv_tag, decide_eq_false h6]
      rfl
section
variable {a oa b : Int} {ws : List Int} (ha : 0 ≤ a ∧ a ≤ 1099511627776) (hb : 0 ≤ b ∧ b ≤ 1000) (hw : ws.length ≤ 60)
  (hh : ∀ x ∈ ws, ptB x = true → x / 8 % 8 = 0)
/-- The objects that moved words lead to are moved. -/
def mvO (b : Int) : Option (Int × List Int) → Option (Int × List Int)
  | some (k, ws) => some (k, ws.map (mvZ b))
  | none => none
include ha hb hw
set_option maxRecDepth 100000 in
theorem m_out (x : Int) : outO (mgs (a + b) oa (ws.map (mvZ b))) (mvZ b x) = mvO b (outO (mgs a oa ws) x) := by
  unfold outO
  rw [mv_tag]
  by_cases h5 : x % 8 = 5
  · rw [if_pos h5, if_pos h5, m_move ha hb hw (.inr h5), List.length_map]
    by_cases h2 : (atL (mgs a oa ws) (ldZ x)).length < 2
    · rw [if_pos h2, if_pos h2]; rfl
    · rw [if_neg h2, if_neg h2, ← List.map_take]; rfl
  · rw [if_neg h5, if_neg h5]
    unfold boxO
    by_cases h4 : x % 8 = 4
    · rw [m_move ha hb hw (.inl h4)]
      rcases atL (mgs a oa ws) (ldZ x) with _ | ⟨h, t⟩
      · rfl
      · rw [List.map_cons]
        rw [box_cons, box_cons, mv_tag, mv_pt, List.length_map]
        by_cases hp : ptB h = true
        · rw [mv_head hp]
          by_cases hc : x % 8 = 4 ∧ ptB h = true ∧ h / 64 ≤ (t.length : Int)
          · rw [if_pos hc, if_pos hc, ← List.map_take]; rfl
          · rw [if_neg hc, if_neg hc]; rfl
        · rw [if_neg (fun e => hp e.2.1), if_neg (fun e => hp e.2.1)]; rfl
    · have hz : ∀ (u : Int) (L : List Int), u % 8 ≠ 4 → boxZ u L = none := fun u L hu => by
        rcases L with _ | ⟨h, t⟩
        · rfl
        · rw [box_cons, if_neg (fun e => hu e.1)]
      rw [hz _ _ (by rw [mv_tag]; exact h4), hz _ _ h4]
      rfl
omit hb hw in
include hh in
set_option maxRecDepth 100000 in
/-- There are pairs and tuples alone. -/
theorem m_kind {x k : Int} {us : List Int} (h : outO (mgs a oa ws) x = some (k, us)) : k = -1 ∨ k = 0 := by
  unfold outO at h
  split at h
  · split at h
    · cases h
    · injection h with h; injection h with h1 _; exact .inl h1.symm
  · unfold boxO at h
    rw [m_at ha.1] at h
    split at h
    · next hin =>
      cases hd : ws.drop (ldZ x - a).toNat with
      | nil => rw [hd] at h; cases h
      | cons g t =>
        rw [hd] at h
        rw [box_cons] at h
        split at h
        · next hc =>
          injection h with h
          injection h with h1 _
          have hg : g ∈ ws := List.mem_of_mem_drop (by rw [hd]; simp)
          right
          rw [← h1]
          exact hh g hg hc.2.1
        · cases h
    · cases h
include hh in
set_option maxRecDepth 100000 in
theorem m_obj (x : Int) : objO (mgs (a + b) oa (ws.map (mvZ b))) (mvZ b x) = mvO b (objO (mgs a oa ws) x) := by
  unfold objO
  rw [m_out ha hb hw]
  cases ho : outO (mgs a oa ws) x with
  | none => rfl
  | some p =>
    obtain ⟨k, us⟩ := p
    have hk := m_kind ha hh ho
    simp only [mvO]
    have e : formO (mgs (a + b) oa (ws.map (mvZ b))) k (us.map (mvZ b)) = formO (mgs a oa ws) k us := by
      unfold formO
      rcases hk with rfl | rfl
      · rw [if_pos rfl, if_pos rfl]
      · rw [if_neg (by decide), if_pos rfl, if_neg (by decide), if_pos rfl, List.length_map]
    rw [e]
    cases formO (mgs a oa ws) k us <;> rfl
omit ha hw in
set_option maxRecDepth 100000 in
theorem mv_plain {x : Int} (hx : 0 ≤ x) : plB (mvZ b x) = plB x := by
  by_cases hc : (x % 8 = 4 ∨ x % 8 = 5) ∧ ldZ x ≤ 1125899906842624
  · have e1 : mvZ b x = x + b * 8 := by unfold mvZ; rw [if_pos hc]
    have e0 : ldZ x = x / 8 := by unfold ldZ; rw [if_neg (by omega)]
    have e2 : ldZ (x + b * 8) = x / 8 + b := by unfold ldZ; rw [if_neg (by omega)]; omega
    have e3 : (x + b * 8) % 8 = x % 8 := by omega
    rw [e1]
    unfold plB
    rw [e3, e2, e0]
    have hr : ∀ t l : Int, (t = 4 ∨ t = 5) → 0 ≤ l → l ≤ 1152921504606846975 → pmB t l = true := fun t l ht h1 h2 => by
      rcases ht with rfl | rfl <;> simp [pmB, h1, h2]
    rw [e0] at hc
    rw [hr _ _ hc.1 (by omega) (by omega), hr _ _ hc.1 (by omega) (by omega)]
  · have e1 : mvZ b x = x := by unfold mvZ; rw [if_neg hc]
    rw [e1]
omit hb hw in
set_option maxRecDepth 100000 in
/-- The words of an object lie in the region. -/
theorem m_mem {x k : Int} {us : List Int} (h : objO (mgs a oa ws) x = some (k, us)) : ∀ u ∈ us, u ∈ ws := by
  have ho : outO (mgs a oa ws) x = some (k, us) := by
    unfold objO at h
    split at h
    · cases h
    · next k2 us2 ho =>
      split at h
      · injection h with h; injection h with h1 h2; subst h1 h2; exact ho
      · cases h
  have hat : ∀ u ∈ atL (mgs a oa ws) (ldZ x), u ∈ ws := fun u hu => by
    rw [m_at ha.1] at hu
    split at hu
    · exact List.mem_of_mem_drop hu
    · cases hu
  intro u hu
  unfold outO at ho
  split at ho
  · split at ho
    · cases ho
    · injection ho with ho; injection ho with _ h2; subst h2; exact hat u (List.mem_of_mem_take hu)
  · unfold boxO at ho
    cases hd : atL (mgs a oa ws) (ldZ x) with
    | nil => rw [hd] at ho; cases ho
    | cons g t =>
      rw [hd, box_cons] at ho
      split at ho
      · injection ho with ho
        injection ho with _ h2
        subst h2
        exact hat u (by rw [hd]; exact List.mem_cons_of_mem _ (List.mem_of_mem_take hu))
      · cases ho
omit ha hb hw in
set_option maxRecDepth 100000 in
theorem rdA_map (f g : Int → Option Tm) (h : Int → Int) : ∀ us : List Int, (∀ u ∈ us, f (h u) = g u) → rdA f (us.map h) = rdA g us
  | [], _ => rfl
  | u :: us, e => by
    rw [List.map_cons]
    unfold rdA
    rw [e u (by simp), rdA_map f g h us (fun v hv => e v (by simp [hv]))]
include hh in
set_option maxRecDepth 100000 in
theorem m_rdF (hwd : ∀ x ∈ ws, Wd x) (S : List Slt) : ∀ (n : Nat) (x : Int), Wd x → rdF (mgs (a + b) oa (ws.map (mvZ b))) S n (mvZ b x) = rdF (mgs a oa ws) S n x
  | 0, _, _ => rfl
  | n + 1, x, hx => by
    unfold rdF
    rw [mv_plain hb hx.1, mv_tag]
    by_cases ht : x % 8 = 4 ∨ x % 8 = 5
    · rw [m_obj ha hb hw hh]
      by_cases hp : plB x = false
      · rw [if_pos hp, if_pos hp]
      · rw [if_neg hp, if_neg hp, if_neg (by omega), if_neg (by omega), if_neg (by omega), if_neg (by omega), if_neg (by omega), if_neg (by omega), if_neg (by omega), if_neg (by omega)]
        cases ho : objO (mgs a oa ws) x with
        | none => rfl
        | some p =>
          obtain ⟨k, us⟩ := p
          have hmem := m_mem ha ho
          have hk : k = -1 ∨ k = 0 := by
            unfold objO at ho
            split at ho
            · cases ho
            · next k2 us2 h2 =>
              split at ho
              · injection ho with ho; injection ho with h3 _; rw [← h3]; exact m_kind ha hh h2
              · cases ho
          simp only [mvO]
          rw [if_pos hk, if_pos hk, rdA_map _ (rdF (mgs a oa ws) S n) (mvZ b) us (fun u hu => m_rdF hwd S n u (hwd u (hmem u hu)))]
    · have e1 : mvZ b x = x := by unfold mvZ; rw [if_neg (fun e => ht e.1)]
      rw [e1]
      by_cases hp : plB x = false
      · rw [if_pos hp, if_pos hp]
      · have hp2 : x % 8 ≤ 5 := by
          have : plB x = true := by simpa using hp
          unfold plB at this
          rw [Bool.and_eq_true, decide_eq_true_eq] at this
          exact this.1
        rw [if_neg hp, if_neg hp]
        have h4 : x % 8 = 0 ∨ x % 8 = 1 ∨ x % 8 = 2 ∨ x % 8 = 3 := by omega
        rcases h4 with h | h | h | h <;> simp [h]
include hh in
set_option maxRecDepth 100000 in
theorem m_rd (hwd : ∀ x ∈ ws, Wd x) (S : List Slt) {x : Int} (hx : Wd x) (t : Tm) : Rd (mgs (a + b) oa (ws.map (mvZ b))) S (mvZ b x) t ↔ Rd (mgs a oa ws) S x t := by
  constructor
  · rintro ⟨n, h⟩
    exact ⟨n, by rw [← m_rdF ha hb hw hh hwd S n x hx]; exact h⟩
  · rintro ⟨n, h⟩
    exact ⟨n, by rw [m_rdF ha hb hw hh hwd S n x hx]; exact h⟩
end
end Go.Proofs.YtejmmjedognaaaaGreat

namespace Go.Proofs.YtejmmjedognaaaaGreat
open Go.RowKit Go.Shelf
open St

section
variable {a oa b : Int} {ws roots : List Int} (ha : 0 ≤ a ∧ a ≤ 1099511627776) (hb : 0 ≤ b ∧ b ≤ 1000) (hw : ws.length ≤ 60)
  (hh : ∀ x ∈ ws, ptB x = true → x / 8 % 8 = 0)
set_option maxRecDepth 100000 in
theorem mvO_some {b : Int} {o : Option (Int × List Int)} {k : Int} {us : List Int} (h : mvO b o = some (k, us)) : ∃ vs, o = some (k, vs) ∧ us = vs.map (mvZ b) := by
  rcases o with _ | ⟨k2, vs⟩
  · cases h
  · simp only [mvO] at h
    injection h with h
    injection h with h1 h2
    exact ⟨vs, by rw [h1], h2.symm⟩
set_option maxRecDepth 100000 in
theorem mvO_is (b : Int) (o : Option (Int × List Int)) : (mvO b o).isSome = o.isSome := by
  rcases o with _ | ⟨k2, vs⟩ <;> rfl
set_option maxRecDepth 100000 in
theorem lds_map (b k : Int) (us : List Int) : ldsO k (us.map (mvZ b)) = (ldsO k us).map (mvZ b) := by
  unfold ldsO
  split
  · rfl
  · split
    · rw [List.map_take]
    · rfl
include ha hb hw hh
set_option maxRecDepth 100000 in
theorem m_rch {x' : Int} : Rch (mgs (a + b) oa (ws.map (mvZ b))) (roots.map (mvZ b)) x' ↔ ∃ x, Rch (mgs a oa ws) roots x ∧ x' = mvZ b x := by
  constructor
  · intro h
    induction h with
    | root h ho =>
      obtain ⟨x, hx, rfl⟩ := List.mem_map.1 h
      rw [m_obj ha hb hw hh, mvO_is] at ho
      exact ⟨x, .root hx ho, rfl⟩
    | step hy hk hm ho ih =>
      obtain ⟨y, hy2, rfl⟩ := ih
      rw [m_obj ha hb hw hh] at hk
      obtain ⟨vs, hv, rfl⟩ := mvO_some hk
      rw [lds_map] at hm
      obtain ⟨x, hx, rfl⟩ := List.mem_map.1 hm
      rw [m_obj ha hb hw hh, mvO_is] at ho
      exact ⟨x, .step hy2 hv hx ho, rfl⟩
  · rintro ⟨x, h, rfl⟩
    induction h with
    | root h ho => exact .root (List.mem_map.2 ⟨_, h, rfl⟩) (by rw [m_obj ha hb hw hh, mvO_is]; exact ho)
    | step hy hk hm ho ih => exact .step ih (by rw [m_obj ha hb hw hh, hk]; rfl) (by rw [lds_map]; exact List.mem_map.2 ⟨_, hm, rfl⟩) (by rw [m_obj ha hb hw hh, mvO_is]; exact ho)
set_option maxRecDepth 100000 in
theorem m_size (x : Int) : szX (mgs (a + b) oa (ws.map (mvZ b))) (mvZ b x) = szX (mgs a oa ws) x := by
  unfold szX
  rw [m_obj ha hb hw hh]
  rcases objO (mgs a oa ws) x with _ | ⟨k, us⟩
  · rfl
  · simp only [mvO, List.length_map]
set_option maxRecDepth 100000 in
theorem m_live {l l' : List OR} (h : Rchd (mgs a oa ws) roots l) (h' : Rchd (mgs (a + b) oa (ws.map (mvZ b))) (roots.map (mvZ b)) l') : szO l' = szO l := by
  rw [szO_x (fun p hp => (h.1.2 p hp).2), szO_x (fun p hp => (h'.1.2 p hp).2)]
  have e : (l.map (·.x)).map (szX (mgs a oa ws)) = ((l.map (·.x)).map (mvZ b)).map (szX (mgs (a + b) oa (ws.map (mvZ b)))) := by
    generalize l.map (·.x) = L
    rw [List.map_map]
    apply List.map_congr_left
    intro x _
    exact (m_size ha hb hw hh x).symm
  rw [e]
  have hinj : ∀ x y : Int, mvZ b x = mvZ b y → x ∈ l.map (·.x) → y ∈ l.map (·.x) → x = y := fun x y hxy hx hy => by
    have ld : ∀ z, z ∈ l.map (·.x) → (z % 8 = 4 ∨ z % 8 = 5) ∧ ldZ z ≤ 1125899906842624 := fun z hz => by
      obtain ⟨p, hp, rfl⟩ := List.mem_map.1 hz
      have ho := (h.1.2 p hp).2.1
      have ho2 : outO (mgs a oa ws) p.x = some (p.k, p.ws) := by
        unfold objO at ho
        split at ho
        · cases ho
        · next k2 us2 h2 =>
          split at ho
          · rw [h2]; exact ho
          · cases ho
      have hne : atL (mgs a oa ws) (ldZ p.x) ≠ [] := fun hn => by
        unfold outO boxO at ho2
        rw [hn] at ho2
        split at ho2
        · rw [if_pos (by simp)] at ho2; cases ho2
        · cases ho2
      rw [m_at ha.1] at hne
      split at hne
      · next hin =>
        refine ⟨?_, by omega⟩
        unfold outO at ho2
        split at ho2
        · next h5 => exact .inr h5
        · unfold boxO at ho2
          rcases hd : atL (mgs a oa ws) (ldZ p.x) with _ | ⟨g, t⟩
          · rw [hd] at ho2; cases ho2
          · rw [hd, box_cons] at ho2
            split at ho2
            · next hc => exact .inl hc.1
            · cases ho2
      · exact absurd rfl hne
    unfold mvZ at hxy
    rw [if_pos (ld x hx), if_pos (ld y hy)] at hxy
    omega
  have hnd : ((l.map (·.x)).map (mvZ b)).Nodup := by
    have := h.1.1
    rw [List.nodup_iff_pairwise_ne] at this ⊢
    rw [List.pairwise_map]
    exact this.imp_of_mem (fun hx hy hne e => hne (hinj _ _ e hx hy))
  refine Int.le_antisymm (sum_sub (szX_pos _) h'.1.1 (fun x' hx' => ?_)) (sum_sub (szX_pos _) hnd (fun x' hx' => ?_))
  · obtain ⟨x, hx, rfl⟩ := (m_rch ha hb hw hh).1 ((h'.2 x').1 hx')
    exact List.mem_map.2 ⟨x, (h.2 x).2 hx, rfl⟩
  · obtain ⟨x, hx, rfl⟩ := List.mem_map.1 hx'
    exact (h'.2 _).2 ((m_rch ha hb hw hh).2 ⟨x, (h.2 x).1 hx, rfl⟩)
end
set_option maxRecDepth 100000 in
theorem m_sepa (a oa : Int) (ws : List Int) (ha : 0 ≤ a ∧ a ≤ 1125899906842624) : Sepa (mgs a oa ws) := by
  have e : neF (mgs a oa ws) = [] ∨ neF (mgs a oa ws) = [⟨a, ws⟩] := by
    unfold neF mgs
    rw [List.filter_cons]
    split
    · right; rw [List.filter_cons, if_neg (by simp)]; rfl
    · left; rw [List.filter_cons, if_neg (by simp)]; rfl
  unfold Sepa
  rcases e with e | e <;> rw [e]
  · exact ⟨(fun f hf => absurd hf (by simp)), List.Pairwise.nil⟩
  · exact ⟨fun f hf => by rw [List.mem_singleton.1 hf]; exact ha, List.pairwise_singleton _ _⟩
set_option maxRecDepth 100000 in
/-- The dump, as it came in and as it is moved. -/
theorem m_why {a oa b size mark : Int} {ws roots : List Int} (ha : 0 ≤ a ∧ a ≤ 1099511627776) (hb : 0 ≤ b ∧ b ≤ 1000) (hw : ws.length ≤ 60) (hh : ∀ x ∈ ws, ptB x = true → x / 8 % 8 = 0)
    (hwd : ∀ x ∈ ws, Wd x) (hrd : ∀ x ∈ roots, Wd x) {S : List Slt} (h : whyO (mgs a oa ws) S ⟨⟨a, ws⟩, ⟨oa, []⟩, size, mark, [], roots, []⟩ = ⟨#[]⟩) :
    whyO (mgs (a + b) oa (ws.map (mvZ b))) S ⟨⟨a + b, ws.map (mvZ b)⟩, ⟨oa, []⟩, size, mark, [], roots.map (mvZ b), []⟩ = ⟨#[]⟩ := by
  obtain ⟨⟨_, h1⟩, h2, _, _⟩ := why_yes h
  refine why_no ⟨m_sepa _ _ _ (by omega), ?_⟩ (fun x' hx' => ?_) rfl ⟨(fun a ha => absurd ha (by simp)), List.nodup_nil, (fun x' us hx' ho => ?_)⟩
  · unfold msB at h1 ⊢
    simpa using h1
  · obtain ⟨x, hx, rfl⟩ := List.mem_map.1 hx'
    obtain ⟨t, ht, hwt⟩ := h2 x hx
    exact ⟨t, (m_rd ha hb hw hh hwd S (hrd x hx) t).2 ht, hwt⟩
  · exfalso
    obtain ⟨x, hx, rfl⟩ := (m_rch ha hb hw hh).1 hx'
    rw [m_obj ha hb hw hh] at ho
    obtain ⟨vs, hv, _⟩ := mvO_some ho
    unfold objO at hv
    split at hv
    · cases hv
    · next k2 us2 h2 =>
      split at hv
      · injection hv with hv
        injection hv with h3 _
        have := m_kind ha hh h2
        omega
      · cases hv
end Go.Proofs.YtejmmjedognaaaaGreat

namespace Go.Proofs.YtejmmjedognaaaaGreat
open Go.RowKit

set_option maxRecDepth 100000 in
theorem low_nval (x : Int) (m : Nat) (hm : 0 < m) (hm' : m ≤ 1000000000) : ∃ r : Nat, r < m ∧ wrap64 ((IntKind.u64.wrap x).tmod m) = (r : Int) := by
  have h0 : 0 ≤ IntKind.u64.wrap x := by rw [IntKind.wrap_u64]; omega
  generalize IntKind.u64.wrap x = y at *
  have h1 : y.tmod m = y % m := Int.tmod_eq_emod_of_nonneg h0
  have h2 := Int.emod_nonneg y (show (m : Int) ≠ 0 by omega)
  have h3 := Int.emod_lt_of_pos y (show (0 : Int) < m by omega)
  rw [h1]
  generalize y % (m : Int) = z at *
  exact ⟨z.toNat, by omega, by simp only [wrap64]; omega⟩
set_option maxRecDepth 100000 in
theorem low_nat (x : Int) (m : Nat) (hm : 0 < m) (hm' : m ≤ 1000000000) : ∃ r : Nat, r < m ∧
    ∀ w : World, Calls Tryz.prog 22 #[.int .i64 x, .int .i64 m] w fun e w' => e = .returned (.int .i64 r) ∧ w = w' := by
  obtain ⟨r, h1, h2⟩ := low_nval x m hm hm'
  have H2 := Lib.hid h2
  clear h2
  refine ⟨r, h1, fun w => ?_⟩
  go_enter Tryz.func22, Tryz.ntmps22
  go_wp2
  go_ret
  exact ⟨by rw [← H2.out]; rfl, rfl⟩
set_option maxRecDepth 100000 in
theorem low_int (x m : Int) (hm : 0 < m) (hm' : m ≤ 1000000000) : ∃ r : Nat, (r : Int) < m ∧
    ∀ w : World, Calls Tryz.prog 22 #[.int .i64 x, .int .i64 m] w fun e w' => e = .returned (.int .i64 r) ∧ w = w' := by
  obtain ⟨p, rfl⟩ : ∃ p : Nat, m = (p : Int) := ⟨m.toNat, by omega⟩
  obtain ⟨r, h1, h2⟩ := low_nat x p (by omega) (by omega)
  exact ⟨r, by omega, h2⟩
end Go.Proofs.YtejmmjedognaaaaGreat
