/-
  WHAT EVERY PROGRAM ANSWERS THAT IS ONE: the pair of beehivelaw12.
  PACKAGE look: Handles, where no root is.
  RIGHT DUMPS with other roots; what is reached of fewer roots.
  BYTES LAID IN WORDS, and a part of them: what such a dump's words lead to.
  THE DUMP OF LookParts: what it stands for.
  A NUMBER BELOW A BOUND: beehivelaw0.Low (without limbs).
-/
import Derived.Test.YtejmmjedognaaaaQ39
import Derived.Test.YtejmmjedognaaaaQ34
namespace Go.Proofs.Ytejmmjedognaaaa
open Go.RowKit Go.Shelf
open St

def pd : Dmp := ⟨⟨5, [8, 16]⟩, ⟨0, []⟩, 2, 0, [], [45], []⟩
def pT : Tm := ndT (-1) [nuT 1 1, nuT 1 2]
set_option maxRecDepth 100000 in
theorem pd_rd : Rd (pd.y :: pd.o :: pd.fs) [] 45 pT := ⟨2, by rfl⟩
set_option maxRecDepth 100000 in
theorem pT_wt : pT.wt ≤ 300 := by decide
set_option maxRecDepth 100000 in
theorem pd_o45 : objO (pd.y :: pd.o :: pd.fs) 45 = some (-1, [8, 16]) := by decide
set_option maxRecDepth 100000 in
theorem pd_reach {x : Int} : Rch (pd.y :: pd.o :: pd.fs) [45] x ↔ x = 45 := by
  constructor
  · intro h
    induction h with
    | root h ho => simpa using h
    | step hy hk h ho ih =>
      subst ih
      rw [pd_o45] at hk
      injection hk with hk
      injection hk with h1 h2
      subst h1 h2
      have h8 : ∀ y ∈ ldsO (-1) [8, 16], (objO (pd.y :: pd.o :: pd.fs) y).isSome = false := by decide
      rw [h8 _ h] at ho
      cases ho
  · rintro rfl
    exact .root (by simp) (by rw [pd_o45]; rfl)
set_option maxRecDepth 100000 in
theorem pd_sepa : Sepa (pd.y :: pd.o :: pd.fs) := ⟨by intro f hf; simp [neF, pd] at hf; subst hf; unfold InR; decide, by simp [neF, pd]⟩
set_option maxRecDepth 100000 in
theorem pd_why : whyO (pd.y :: pd.o :: pd.fs) [] pd = ⟨#[]⟩ := by
  refine why_no ⟨pd_sepa, by decide⟩ (fun x hx => ?_) (by decide) ⟨(fun a ha => absurd ha (by simp [pd])), (by simp [pd]), (fun x ws hx ho => ?_)⟩
  · rw [show x = 45 by simpa [pd] using hx]
    exact ⟨pT, pd_rd, pT_wt⟩
  · rw [pd_reach.1 hx, pd_o45] at ho
    injection ho with ho
    injection ho with h1 _
    cases h1
def bd : Dmp := { pd with mark := 3 }
set_option maxRecDepth 100000 in
theorem bd_why : whyO (bd.y :: bd.o :: bd.fs) [] bd = ⟨#[114, 101, 103, 105, 111, 110, 115]⟩ := why_reg (fun h => absurd h.2 (by decide))
set_option maxRecDepth 100000 in
theorem szO_one {gs : List Frg} {roots : List Int} {l : List OR} {x k : Int} {ws : List Int} (h : Rchd gs roots l) (hx : ∀ y, Rch gs roots y ↔ y = x) (ho : objO gs x = some (k, ws)) : szO l = if k = -1 then (ws.length : Int) else 1 + ws.length := by
  have hm : ∀ y, y ∈ l.map (·.x) ↔ y = x := fun y => (h.2 y).trans (hx y)
  rcases l with _ | ⟨p, l⟩
  · exact absurd ((hm x).2 rfl) (by simp)
  · rcases l with _ | ⟨q, l⟩
    · have e : p.x = x := (hm p.x).1 (by simp)
      obtain ⟨_, h1, h2⟩ := h.1.2 p (by simp)
      rw [e, ho] at h1
      injection h1 with h1
      injection h1 with h3 h4
      simp only [szO, szI, List.map_cons, List.map_nil, List.sum_cons, List.sum_nil]
      rw [h2, ← h3, ← h4, Int.add_zero]
    · exfalso
      have e1 : p.x = x := (hm p.x).1 (by simp)
      have e2 : q.x = x := (hm q.x).1 (by simp)
      have := h.1.1
      simp [e1, e2] at this
set_option maxRecDepth 100000 in
theorem pd_live {l : List OR} (h : Rchd (pd.y :: pd.o :: pd.fs) [45] l) : szO l = 2 := (szO_one h (fun y => pd_reach) pd_o45).trans (by decide)

set_option maxRecDepth 100000 in
theorem zs_row {w : World} {b : Nat} {zs : List Int} {cs : Array Value} {t : TypeId} {f : Nat × Nat} {n : Nat} (hb : w.heap[b]? = some (.cells cs t f)) (hc : ∀ j, j < n → cs[j]? = some (.int .u64 (zs.getD j 0))) (hn : zs.length = n) (hm : n ≤ maxLen) (hwf : ∀ x ∈ zs, (Lit.int .u64 x).wf = true) : Zs .u64 w (some ⟨b, 0, none⟩) n n zs :=
  ⟨hn, Nat.le_refl _, hm, hwf, fun _ => ⟨b, 0, rfl, (Array.getElem?_eq_some_iff.1 hb).1, fun j hj => by rw [Nat.zero_add]; exact (cell_of_row w b j _ _ _ hb).trans (hc j hj)⟩⟩
/-- The pair in memory. -/
def pR (S : Nat) (m : Int) : DR := ⟨⟨5, some ⟨S + 1, 0, none⟩, 2, 2⟩, ⟨0, none, 0, 0⟩, 2, m, none, 0, 0, some ⟨S + 2, 0, none⟩, 1, 1, none, 0, 0, []⟩
set_option maxRecDepth 100000 in
theorem FVs.nil (w : World) : FVs w none 0 0 [] [] := ⟨rfl, rfl, by omega, by decide, fun h => absurd h (by omega), fun i hi => absurd hi (by omega)⟩
set_option maxRecDepth 100000 in
theorem pd_dv {w : World} {S : Nat} (h1 : w.heap[S + 1]? = some (.cells #[.int .u64 8, .int .u64 16] 24 (0, 0))) (h2 : w.heap[S + 2]? = some (.cells #[.int .u64 45] 24 (0, 0))) : DV w (pR S 0) pd := by
  refine ⟨⟨rfl, by decide, ?_⟩, ⟨rfl, by decide, Zs.nil _ _⟩, rfl, rfl, by decide, by decide, FVs.nil w, ?_, Zs.nil _ _⟩
  · exact zs_row (n := 2) h1 (fun j hj => match j, hj with | 0, _ => rfl | 1, _ => rfl) rfl (by decide) (by decide)
  · exact zs_row (n := 1) h2 (fun j hj => match j, hj with | 0, _ => rfl) rfl (by decide) (by decide)
set_option maxRecDepth 100000 in
theorem bd_dv {w : World} {S : Nat} (h : DV w (pR S 0) pd) : DV w (pR S 3) bd := ⟨h.y, h.o, h.size, rfl, h.wfs, by decide, h.fs, h.roots, h.hs⟩
set_option maxRecDepth 100000 in
set_option maxRecDepth 100000 in
set_option maxHeartbeats 4000000 in
theorem pair_any (w : World) : Calls Try.prog 11 #[] w fun e w' => ∃ S, e = .returned (.agg #[.int .i64 5, .slice (some ⟨S + 1, 0, none⟩) 2 2, .int .i64 0, .slice none 0 0, .int .i64 2, .int .i64 0, .slice none 0 0, .slice (some ⟨S + 2, 0, none⟩) 1 1, .slice none 0 0]) ∧ DV w' (pR S 0) pd ∧ Below w.heap.size w w' := by
  go_enter Try.func11, Try.ntmps11
  go_wp2
  generalize hS : w.heap.size = S at *
  obtain ⟨W, hW⟩ : ∃ W, W = ((w.alloc (.cells #[.int .i64 5, .slice (some ⟨S + 1, 0, none⟩) 2 2, .int .i64 0, .slice none 0 0, .int .i64 2, .int .i64 0, .slice none 0 0, .slice (some ⟨S + 1 + 1, 0, none⟩) 1 1, .slice none 0 0] 33)).alloc (.cells #[.int .u64 8, .int .u64 16] 24)).alloc (.cells #[.int .u64 45] 24) := ⟨_, rfl⟩
  rw [← hW]
  have hb : Below S w W := by rw [hW, ← hS]; exact (((Below.refl _ w).alloc (Nat.le_refl _) _).alloc (by simp) _).alloc (by simp; omega) _
  have h0 : Bx W S (pR S 0) := ⟨by
    rw [hW, ← hS, Below.heap_alloc _ _ _ (by simp; omega), Below.heap_alloc _ _ _ (by simp)]
    exact heap_alloc_new w _⟩
  have h1 : W.heap[S + 1]? = some (.cells #[.int .u64 8, .int .u64 16] 24 (0, 0)) := by
    rw [hW, ← hS, Below.heap_alloc _ _ _ (by simp)]
    have := heap_alloc_new (w.alloc (.cells #[.int .i64 5, .slice (some ⟨w.heap.size + 1, 0, none⟩) 2 2, .int .i64 0, .slice none 0 0, .int .i64 2, .int .i64 0, .slice none 0 0, .slice (some ⟨w.heap.size + 1 + 1, 0, none⟩) 1 1, .slice none 0 0] 33)) (.cells #[.int .u64 8, .int .u64 16] 24)
    simpa using this
  have h2 : W.heap[S + 2]? = some (.cells #[.int .u64 45] 24 (0, 0)) := by
    rw [hW, ← hS]
    have := heap_alloc_new ((w.alloc (.cells #[.int .i64 5, .slice (some ⟨w.heap.size + 1, 0, none⟩) 2 2, .int .i64 0, .slice none 0 0, .int .i64 2, .int .i64 0, .slice none 0 0, .slice (some ⟨w.heap.size + 1 + 1, 0, none⟩) 1 1, .slice none 0 0] 33)).alloc (.cells #[.int .u64 8, .int .u64 16] 24)) (.cells #[.int .u64 45] 24)
    simpa using this
  clear hW
  have q0 := h0.c0
  have q1 := h0.c1
  have q2 := h0.c2
  have q3 := h0.c3
  have q4 := h0.c4
  have q5 := h0.c5
  have q6 := h0.c6
  have q7 := h0.c7
  have q8 := h0.c8
  simp only [pR] at q0 q1 q2 q3 q4 q5 q6 q7 q8
  refine bodyPost_ret (v := .agg #[.int .i64 5, .slice (some ⟨S + 1, 0, none⟩) 2 2, .int .i64 0, .slice none 0 0, .int .i64 2, .int .i64 0, .slice none 0 0, .slice (some ⟨S + 2, 0, none⟩) 1 1, .slice none 0 0]) (by simp [results, Try.results11, go_sem, q0, q1, q2, q3, q4, q5, q6, q7, q8]) rfl ?_
  exact ⟨S, rfl, pd_dv h1 h2, hb⟩
set_option maxRecDepth 100000 in
theorem sls_nil (w : World) : SLs w none 0 0 [] := ⟨rfl, Nat.le_refl _, by decide, fun i hi => absurd hi (by omega), fun h => absurd h (by omega)⟩
set_option maxRecDepth 100000 in
theorem pd_sm : ∀ f ∈ pd.y :: pd.o :: pd.fs, f.ws.length ≤ 1000 := by decide
set_option maxRecDepth 100000 in
theorem read_pair {w : World} {S : Nat} (h : DV w (pR S 0) pd) : Calls Try.prog 7 #[.agg #[.int .i64 5, .slice (some ⟨S + 1, 0, none⟩) 2 2, .int .i64 0, .slice none 0 0, .int .i64 2, .int .i64 0, .slice none 0 0, .slice (some ⟨S + 2, 0, none⟩) 1 1, .slice none 0 0], .slice none 0 0, .int .u64 45] w fun e w' =>
    ∃ n g A ln lc u s b o d, e = .returned (.tuple #[.agg #[.int .i64 8, .int .i64 n, .bool g, .slice A ln lc, .int .u64 u, .string s, .slice (some ⟨b, o, none⟩) 2 d], .bool true]) ∧ w'.cell? ⟨b, o + 7 + 1, none⟩ = some (.int .i64 2) ∧ 2 ≤ d ∧ Below w.heap.size w w' := by
  refine (read_any h (by simp [pR]) pd_sm (sls_nil w) (by decide) 45 (by unfold Wd; decide)).mono ?_
  rintro e w' ⟨⟨t, R, hr, _, rfl, tv, _⟩ | ⟨hno, _⟩, hb⟩
  · rw [hr.det pd_rd] at tv
    have hk := tv.tv.kind
    have hl := tv.tv.len
    obtain ⟨b, o, r, t', hB, _, h7, ht, tv2⟩ := tv.tv.args.get 1 (by rw [← hl]; decide)
    have hd := tv.tv.args.md
    have e2 : r.n = 2 := by
      have := tv2.num
      rw [show t' = nuT 1 2 by simpa [pT, ndT, Tm.args] using ht.symm] at this
      exact this.symm
    obtain ⟨k, n, g, A, ln, lc, u, s, B, m, d⟩ := R
    simp only at hk hl hB hd
    subst hB
    have hk : k = 8 := hk.symm
    have hl : m = 2 := hl.symm
    subst hk hl
    refine ⟨n, g, A, ln, lc, u, s, b, o, d, rfl, ?_, hd, hb⟩
    have := h7.c1
    rw [e2] at this
    exact this
  · exact absurd (hno pT pd_rd) (by have := pT_wt; omega)
set_option maxRecDepth 100000 in
theorem why_pair {w : World} {S : Nat} (h : DV w (pR S 0) pd) : Calls Try.prog 9 #[.agg #[.int .i64 5, .slice (some ⟨S + 1, 0, none⟩) 2 2, .int .i64 0, .slice none 0 0, .int .i64 2, .int .i64 0, .slice none 0 0, .slice (some ⟨S + 2, 0, none⟩) 1 1, .slice none 0 0], .slice none 0 0] w fun e w' => e = .returned (.string ⟨#[]⟩) ∧ Below w.heap.size w w' := by
  have := why_any h (by simp [pR]) pd_sm (by simp [pR]) (by simp [pR]) (sls_nil w) (by decide)
  rw [pd_why] at this
  exact this
set_option maxRecDepth 100000 in
theorem why_bad {w : World} {S : Nat} (h : DV w (pR S 0) pd) : Calls Try.prog 9 #[.agg #[.int .i64 5, .slice (some ⟨S + 1, 0, none⟩) 2 2, .int .i64 0, .slice none 0 0, .int .i64 2, .int .i64 3, .slice none 0 0, .slice (some ⟨S + 2, 0, none⟩) 1 1, .slice none 0 0], .slice none 0 0] w fun e w' => e = .returned (.string ⟨#[114, 101, 103, 105, 111, 110, 115]⟩) ∧ Below w.heap.size w w' := by
  have := why_any (bd_dv h) (by simp [pR]) pd_sm (by simp [pR]) (by simp [pR]) (sls_nil w) (by decide)
  rw [bd_why] at this
  exact this
set_option maxRecDepth 100000 in
theorem live_pair {w : World} {S : Nat} (h : DV w (pR S 0) pd) : Calls Try.prog 10 #[.agg #[.int .i64 5, .slice (some ⟨S + 1, 0, none⟩) 2 2, .int .i64 0, .slice none 0 0, .int .i64 2, .int .i64 0, .slice none 0 0, .slice (some ⟨S + 2, 0, none⟩) 1 1, .slice none 0 0]] w fun e w' => e = .returned (.int .i64 2) ∧ Below w.heap.size w w' := by
  refine (live_any h (by simp [pR]) pd_sm (by simp [pR])).mono ?_
  rintro e w' ⟨gs', l, hg, hR, rfl, hb⟩
  rcases hg with ⟨_, rfl⟩ | ⟨hn, _⟩
  · exact ⟨by rw [pd_live hR], hb⟩
  · exact absurd pd_sepa hn
set_option maxRecDepth 100000 in
set_option maxRecDepth 100000 in
set_option maxHeartbeats 400000 in
theorem awake12_any (w : World) : Calls Try.prog 4 #[] w fun e w' => e = .returned (.bool true) ∧ Below w.heap.size w w' := by
  go_enter Try.func4, Try.ntmps4
  go_upto_region 1 with fail
  go_upto_region 2 with (first
    | (go_at_call 11; refine (pair_any _).mono ?_; rintro e w1 ⟨S1, rfl, hd1, hb1⟩)
    | (go_at_call 7; refine (read_pair hd1).mono ?_; rintro e w2 ⟨n, g, A, ln, lc, u, s, b, o, d, rfl, hc2, hd2, hb2⟩))
  have hT : (w2.alloc (.cells #[.int .i64 8, .int .i64 n, .bool g, .slice A ln lc, .int .u64 u, .string s, .slice (some ⟨b, o, none⟩) 2 d] 40)).heap[w2.heap.size]? = some (.cells #[.int .i64 8, .int .i64 n, .bool g, .slice A ln lc, .int .u64 u, .string s, .slice (some ⟨b, o, none⟩) 2 d] 40 (0, 0)) := heap_alloc_new w2 _
  have ha2 : Below w2.heap.size w2 (w2.alloc (.cells #[.int .i64 8, .int .i64 n, .bool g, .slice A ln lc, .int .u64 u, .string s, .slice (some ⟨b, o, none⟩) 2 d] 40)) := (Below.refl _ w2).alloc (Nat.le_refl _) _
  have hc3 := (ha2.cell (p := ⟨b, o + 7 + 1, none⟩) (World.block_lt_of_cell? w2 _ hc2)).trans hc2
  have h12 := hb1.trans (hb2.mono hb1.size)
  have hb3 := Lib.hid (h12.trans (ha2.mono h12.size))
  clear hc2 ha2 h12 hb1 hb2 hd1
  generalize w2.alloc (.cells #[.int .i64 8, .int .i64 n, .bool g, .slice A ln lc, .int .u64 u, .string s, .slice (some ⟨b, o, none⟩) 2 d] 40) = w3 at *
  generalize w2.heap.size = G at *
  go_upto_region 3 with (go_at_call 11; refine (pair_any _).mono ?_; rintro e w4 ⟨S4, rfl, hd4, hb4⟩)
  go_upto_region 4 with fail
  have a4 : Below w4.heap.size w4 (w4.alloc (.cells #[.int .i64 5, .slice (some ⟨S4 + 1, 0, none⟩) 2 2, .int .i64 0, .slice none 0 0, .int .i64 2, .int .i64 3, .slice none 0 0, .slice (some ⟨S4 + 2, 0, none⟩) 1 1, .slice none 0 0] 33)) := (Below.refl _ w4).alloc (Nat.le_refl _) _
  have bx5 : Bx (w4.alloc (.cells #[.int .i64 5, .slice (some ⟨S4 + 1, 0, none⟩) 2 2, .int .i64 0, .slice none 0 0, .int .i64 2, .int .i64 3, .slice none 0 0, .slice (some ⟨S4 + 2, 0, none⟩) 1 1, .slice none 0 0] 33)) w4.heap.size (pR S4 3) := ⟨heap_alloc_new w4 _⟩
  have h34 := hb4.trans (a4.mono hb4.size)
  have hT5 := (h34.block G (Array.getElem?_eq_some_iff.1 hT).1).trans hT
  have hc5 := (h34.cell (p := ⟨b, o + 7 + 1, none⟩) (World.block_lt_of_cell? w3 _ hc3)).trans hc3
  have hb5 := Lib.hid (hb3.out.trans (h34.mono hb3.out.size))
  have hd5 := Lib.hid (hd4.below a4)
  clear a4 h34 hT hc3 hb3 hb4 hd4
  generalize w4.alloc (.cells #[.int .i64 5, .slice (some ⟨S4 + 1, 0, none⟩) 2 2, .int .i64 0, .slice none 0 0, .int .i64 2, .int .i64 3, .slice none 0 0, .slice (some ⟨S4 + 2, 0, none⟩) 1 1, .slice none 0 0] 33) = w5 at *
  generalize w4.heap.size = E at *
  replace bx5 := Lib.hid bx5
  have hc := Lib.hid (Below.refl w5.heap.size w5)
  have u0 : w5.cell? ⟨G, 0, none⟩ = some (.int .i64 8) := (cell_of_row w5 G 0 _ _ (0, 0) hT5).trans rfl
  have u6 : w5.cell? ⟨G, 6, none⟩ = some (.slice (some ⟨b, o, none⟩) 2 d) := (cell_of_row w5 G 6 _ _ (0, 0) hT5).trans rfl
  clear hT5
  have bk := bx5.out
  have q0 := bk.c0; have q1 := bk.c1; have q2 := bk.c2; have q3 := bk.c3; have q4 := bk.c4; have q5 := bk.c5; have q6 := bk.c6; have q7 := bk.c7; have q8 := bk.c8; simp only [pR] at q0 q1 q2 q3 q4 q5 q6 q7 q8; clear bk
  go_wp2_with (first
    | (go_at_call 11; (with_reducible refine (pair_any _).mono ?_); rintro e w6 ⟨S6, rfl, hd6, hb6⟩; replace hd6 := Lib.hid hd6; replace hc := Lib.hid (hc.out.trans (hb6.mono hc.out.size)); clear hb6; clear q0 q1 q2 q3 q4 q5 q6 q7 q8; have bk := bx5.out.below hc.out bx5.out.lt; have q0 := bk.c0; have q1 := bk.c1; have q2 := bk.c2; have q3 := bk.c3; have q4 := bk.c4; have q5 := bk.c5; have q6 := bk.c6; have q7 := bk.c7; have q8 := bk.c8; simp only [pR] at q0 q1 q2 q3 q4 q5 q6 q7 q8; clear bk)
    | (go_at_call 9; (with_reducible refine (why_pair hd6.out).mono ?_); rintro e w7 ⟨rfl, hb7⟩; replace hc := Lib.hid (hc.out.trans (hb7.mono hc.out.size)); clear hb7; clear q0 q1 q2 q3 q4 q5 q6 q7 q8; have bk := bx5.out.below hc.out bx5.out.lt; have q0 := bk.c0; have q1 := bk.c1; have q2 := bk.c2; have q3 := bk.c3; have q4 := bk.c4; have q5 := bk.c5; have q6 := bk.c6; have q7 := bk.c7; have q8 := bk.c8; simp only [pR] at q0 q1 q2 q3 q4 q5 q6 q7 q8; clear bk)
    | (go_at_call 9; (with_reducible refine (why_bad (hd5.out.below hc.out)).mono ?_); rintro e w7 ⟨rfl, hb7⟩; replace hc := Lib.hid (hc.out.trans (hb7.mono hc.out.size)); clear hb7; clear q0 q1 q2 q3 q4 q5 q6 q7 q8; have bk := bx5.out.below hc.out bx5.out.lt; have q0 := bk.c0; have q1 := bk.c1; have q2 := bk.c2; have q3 := bk.c3; have q4 := bk.c4; have q5 := bk.c5; have q6 := bk.c6; have q7 := bk.c7; have q8 := bk.c8; simp only [pR] at q0 q1 q2 q3 q4 q5 q6 q7 q8; clear bk)
    | (go_at_call 10; (with_reducible refine (live_pair hd6.out).mono ?_); rintro e w8 ⟨rfl, hb8⟩; replace hc := Lib.hid (hc.out.trans (hb8.mono hc.out.size)); clear hb8))
  go_ret
  exact ⟨rfl, hb5.out.trans (hc.out.mono hb5.out.size)⟩
end Go.Proofs.Ytejmmjedognaaaa

namespace Go.Proofs.Ytejmmjedognaaaa
open Go.RowKit Go.Shelf
open St

set_option maxRecDepth 100000 in
theorem rchd_nil {gs : List Frg} {l : List OR} (h : Rchd gs [] l) : l = [] := by
  rcases l with _ | ⟨p, l⟩
  · rfl
  · exfalso
    have h1 := (h.2 p.x).1 (by simp)
    have h2 : ∀ x, Rch gs [] x → False := fun x hx => by
      induction hx with
      | root h _ => cases h
      | step _ _ _ _ ih => exact ih
    exact h2 _ h1
end Go.Proofs.Ytejmmjedognaaaa

namespace Go.Proofs.Ytejmmjedognaaaa
open Go.RowKit Go.Shelf
open St

set_option maxRecDepth 100000 in
theorem why_yes {gs : List Frg} {S : List Slt} {d : Dmp} (h : whyO gs S d = ⟨#[]⟩) : (Sepa gs ∧ msB d = true) ∧ RtsOk gs S d.roots ∧ clR d.o = true ∧ HdOk gs S d.roots d.hs := by
  unfold whyO at h
  split at h
  · exact absurd h (by decide)
  · next h1 =>
    split at h
    · exact absurd h (by decide)
    · next h2 =>
      split at h
      · exact absurd h (by decide)
      · next h3 =>
        split at h
        · exact absurd h (by decide)
        · next h4 => exact ⟨Classical.not_not.1 h1, Classical.not_not.1 h2, by simpa using h3, Classical.not_not.1 h4⟩
set_option maxRecDepth 100000 in
theorem rch_mono {gs : List Frg} {r1 r2 : List Int} (h : ∀ x ∈ r1, x ∈ r2) {x : Int} (hx : Rch gs r1 x) : Rch gs r2 x := by
  induction hx with
  | root hr ho => exact .root (h _ hr) ho
  | step _ hk hm ho ih => exact .step ih hk hm ho
set_option maxRecDepth 100000 in
theorem why_sub {gs : List Frg} {S : List Slt} {d : Dmp} (h : whyO gs S d = ⟨#[]⟩) (rs : List Int) (hr : ∀ x ∈ rs, x ∈ d.roots) : whyO gs S { d with roots := rs } = ⟨#[]⟩ := by
  obtain ⟨h1, h2, h3, h4⟩ := why_yes h
  exact why_no (d := { d with roots := rs }) ⟨h1.1, h1.2⟩ (fun x hx => h2 x (hr x hx)) h3 ⟨h4.1, h4.2.1, fun x ws hx ho => h4.2.2 x ws (rch_mono hr hx) ho⟩
/-- How many words the object holds that a word leads to. -/
def szX (gs : List Frg) (x : Int) : Int := match objO gs x with
  | some (k, ws) => if k = -1 then (ws.length : Int) else 1 + ws.length
  | none => 0
set_option maxRecDepth 100000 in
theorem szX_pos (gs : List Frg) (x : Int) : 0 ≤ szX gs x := by
  unfold szX
  split
  · split <;> omega
  · omega
set_option maxRecDepth 100000 in
theorem szO_x {gs : List Frg} : ∀ {l : List OR}, (∀ p ∈ l, objO gs p.x = some (p.k, p.ws) ∧ p.n = p.ws.length) → szO l = ((l.map (·.x)).map (szX gs)).sum
  | [], _ => rfl
  | p :: l, h => by
    obtain ⟨h1, h2⟩ := h p (by simp)
    have e : szO (p :: l) = szI p + szO l := by simp [szO]
    rw [e, szO_x (fun q hq => h q (by simp [hq]))]
    simp only [List.map_cons, List.sum_cons]
    congr 1
    unfold szX szI
    rw [h1, h2]
set_option maxRecDepth 100000 in
theorem sum_pos {f : Int → Int} (hf : ∀ x, 0 ≤ f x) : ∀ b : List Int, 0 ≤ (b.map f).sum
  | [] => by simp
  | x :: b => by simp only [List.map_cons, List.sum_cons]; have := hf x; have := sum_pos hf b; omega
set_option maxRecDepth 100000 in
theorem perm_sum {a b : List Int} (h : a.Perm b) : a.sum = b.sum := by
  induction h with
  | nil => rfl
  | cons x _ ih => simp only [List.sum_cons]; omega
  | swap x y l => simp only [List.sum_cons]; omega
  | trans _ _ h1 h2 => omega
set_option maxRecDepth 100000 in
theorem sum_sub {f : Int → Int} (hf : ∀ x, 0 ≤ f x) : ∀ {a b : List Int}, a.Nodup → (∀ x ∈ a, x ∈ b) → (a.map f).sum ≤ (b.map f).sum
  | [], b, _, _ => sum_pos hf b
  | x :: a, b, hn, hs => by
    obtain ⟨hx, hn⟩ := List.nodup_cons.1 hn
    have hb : x ∈ b := hs x (by simp)
    have e := perm_sum ((List.perm_cons_erase hb).map f)
    rw [e]
    simp only [List.map_cons, List.sum_cons]
    have := sum_sub hf (b := b.erase x) hn (fun y hy => (List.mem_erase_of_ne (fun e => hx (by rw [← e]; exact hy))).2 (hs y (by simp [hy])))
    omega
set_option maxRecDepth 100000 in
theorem szO_le {gs : List Frg} {r1 r2 : List Int} (h : ∀ x ∈ r1, x ∈ r2) {l1 l2 : List OR} (h1 : Rchd gs r1 l1) (h2 : Rchd gs r2 l2) : szO l1 ≤ szO l2 := by
  rw [szO_x (fun p hp => (h1.1.2 p hp).2), szO_x (fun p hp => (h2.1.2 p hp).2)]
  exact sum_sub (szX_pos gs) h1.1.1 (fun x hx => (h2.2 x).2 (rch_mono h ((h1.2 x).1 hx)))
set_option maxRecDepth 100000 in
theorem rd_kind {gs : List Frg} {S : List Slt} {x : Int} {t : Tm} (h : Rd gs S x t) : t.kind ≠ 0 := by
  obtain ⟨n, h⟩ := h
  rcases n with _ | n
  · simp [rdF] at h
  · unfold rdF at h
    by_cases h1 : plB x = false
    · rw [if_pos h1] at h; cases h
    · rw [if_neg h1] at h
      by_cases h2 : x % 8 = 0
      · rw [if_pos h2] at h; injection h with h; subst h; simp [nuT, Tm.kind]
      · rw [if_neg h2] at h
        by_cases h3 : x % 8 = 1
        · rw [if_pos h3] at h; injection h with h; subst h; simp [nuT, Tm.kind]
        · rw [if_neg h3] at h
          by_cases h4 : x % 8 = 2
          · rw [if_pos h4] at h; injection h with h; subst h; simp [nuT, Tm.kind]
          · rw [if_neg h4] at h
            by_cases h5 : x % 8 = 3
            · rw [if_pos h5] at h; injection h with h; subst h; simp [nuT, Tm.kind]
            · rw [if_neg h5] at h
              cases h6 : objO gs x with
              | none => rw [h6] at h; cases h
              | some p =>
                obtain ⟨k, ws⟩ := p
                rw [h6] at h
                simp only at h
                by_cases hk : k = -1 ∨ k = 0
                · rw [if_pos hk, Option.map_eq_some_iff] at h
                  obtain ⟨ts, _, rfl⟩ := h
                  unfold ndT Tm.kind
                  simp only
                  split <;> simp
                · rw [if_neg hk] at h
                  unfold lfO at h
                  split at h
                  · injection h with h; subst h; simp [bgT, Tm.kind]
                  · split at h
                    · injection h with h; subst h; simp [flT, Tm.kind]
                    · split at h
                      · injection h with h; subst h; simp [biT, Tm.kind]
                      · cases h
end Go.Proofs.Ytejmmjedognaaaa

namespace Go.Proofs.Ytejmmjedognaaaa
open Go.RowKit Go.Shelf
open St

/-- Bytes as a number, the least first. -/
def wdP : List Nat → Nat
  | [] => 0
  | x :: t => x + 256 * wdP t
set_option maxRecDepth 100000 in
theorem wdP_app : ∀ (a b : List Nat), wdP (a ++ b) = wdP a + 256 ^ a.length * wdP b
  | [], b => by simp [wdP]
  | x :: a, b => by
    rw [List.cons_append, wdP, wdP, wdP_app a b, List.length_cons, Nat.pow_succ, Nat.mul_add, Nat.mul_comm (256 ^ a.length) 256, Nat.mul_assoc, Nat.add_assoc]
set_option maxRecDepth 100000 in
theorem wdP_lt : ∀ (a : List Nat), Wr.Small a → wdP a < 256 ^ a.length
  | [], _ => by simp [wdP]
  | x :: a, h => by
    have h1 := wdP_lt a (fun y hy => h y (by simp [hy]))
    have h2 := h x (by simp)
    rw [wdP, List.length_cons, Nat.pow_succ]
    omega
set_option maxRecDepth 100000 in
theorem wdP_byte : ∀ (a : List Nat) (k : Nat), Wr.Small a → wdP a / 256 ^ k % 256 = a.getD k 0
  | [], k, _ => by simp [wdP]
  | x :: a, 0, h => by
    have h2 := h x (by simp)
    rw [wdP, Nat.pow_zero, Nat.div_one, List.getD_cons_zero]
    omega
  | x :: a, k + 1, h => by
    have h2 := h x (by simp)
    rw [List.getD_cons_succ, ← wdP_byte a k (fun y hy => h y (by simp [hy])), wdP, show 256 ^ (k + 1) = 256 * 256 ^ k by rw [Nat.pow_succ, Nat.mul_comm], ← Nat.div_div_eq_div_mul, show (x + 256 * wdP a) / 256 = wdP a by omega]
/-- The word of eight bytes, from the eighth times i on. -/
def wrd (l : List Nat) (i : Nat) : Int := (wdP ((l.drop (8 * i)).take 8) : Nat)
/-- All of them. -/
def lay (l : List Nat) : List Int := (List.range ((l.length + 7) / 8)).map (wrd l)
set_option maxRecDepth 100000 in
theorem lay_len (l : List Nat) : (lay l).length = (l.length + 7) / 8 := by simp [lay]
set_option maxRecDepth 100000 in
theorem small_sub {l m : List Nat} (h : Wr.Small l) (hs : ∀ x ∈ m, x ∈ l) : Wr.Small m := fun x hx => h x (hs x hx)
set_option maxRecDepth 100000 in
theorem wrd_wd {l : List Nat} (h : Wr.Small l) (i : Nat) : Wd (wrd l i) := by
  have h1 := wdP_lt ((l.drop (8 * i)).take 8) (small_sub h (fun x hx => List.mem_of_mem_drop (List.mem_of_mem_take hx)))
  have h2 : ((l.drop (8 * i)).take 8).length ≤ 8 := by rw [List.length_take]; omega
  have h3 : 256 ^ ((l.drop (8 * i)).take 8).length ≤ 256 ^ 8 := Nat.pow_le_pow_right (by omega) h2
  unfold Wd wrd
  omega
set_option maxRecDepth 100000 in
theorem wrd_byt {l : List Nat} (h : Wr.Small l) (i k : Nat) (hk : k < 8) : byt (wrd l i) k = l.getD (8 * i + k) 0 := by
  have h1 := wdP_byte ((l.drop (8 * i)).take 8) k (small_sub h (fun x hx => List.mem_of_mem_drop (List.mem_of_mem_take hx)))
  have h2 : ((l.drop (8 * i)).take 8).getD k 0 = l.getD (8 * i + k) 0 := by
    rw [List.getD_eq_getElem?_getD, List.getD_eq_getElem?_getD, List.getElem?_take_of_lt hk, List.getElem?_drop]
  unfold byt wrd
  rw [← h2, ← h1, show (2 : Int) ^ (8 * k) = ((256 ^ k : Nat) : Int) by rw [Int.pow_mul]; norm_cast]
  generalize wdP ((l.drop (8 * i)).take 8) = v
  generalize 256 ^ k = u
  have : ((v : Int) / (u : Int) % 256) = ((v / u % 256 : Nat) : Int) := by norm_cast
  rw [this]
  rfl
set_option maxRecDepth 100000 in
theorem lay_get {l : List Nat} {i : Nat} (hi : i < (l.length + 7) / 8) : (lay l).getD i 0 = wrd l i := by
  unfold lay
  rw [List.getD_eq_getElem?_getD, List.getElem?_map, List.getElem?_range hi]
  rfl
set_option maxRecDepth 100000 in
theorem lay_wd {l : List Nat} (h : Wr.Small l) : ∀ x ∈ lay l, Wd x := fun x hx => by
  obtain ⟨i, _, rfl⟩ := List.mem_map.1 hx
  exact wrd_wd h i
set_option maxRecDepth 100000 in
theorem lay_at {l : List Nat} (h : Wr.Small l) (j : Nat) (hj : j < (l.length + 7) / 8 * 8) : (byts (lay l))[j]? = some (l.getD j 0) := by
  have e : j = j / 8 * 8 + j % 8 := by omega
  have h1 : j / 8 < (lay l).length := by rw [lay_len]; omega
  rw [e, byts_get (lay l) (j / 8) (j % 8) h1 (by omega), lay_get (by omega), wrd_byt h _ _ (by omega), Nat.mul_comm 8]
set_option maxRecDepth 100000 in
theorem lay_pk {l : List Nat} (h : Wr.Small l) : pkO (lay l) l.length = some l := by
  have hl : (byts (lay l)).length = (l.length + 7) / 8 * 8 := by rw [byts_len, lay_len]
  have hz : ∀ x ∈ (byts (lay l)).drop l.length, x = 0 := fun x hx => by
    obtain ⟨j, hj⟩ := List.getElem?_of_mem hx
    rw [List.getElem?_drop] at hj
    have h1 := (List.getElem?_eq_some_iff.1 hj).1
    rw [lay_at h _ (by omega)] at hj
    injection hj with hj
    rw [← hj, List.getD_eq_getElem?_getD, List.getElem?_eq_none (by omega)]
    rfl
  unfold pkO
  rw [if_pos ⟨lay_len l, hz⟩]
  congr 1
  apply List.ext_getElem?
  intro j
  by_cases hj : j < l.length
  · rw [List.getElem?_take_of_lt hj, lay_at h j (by omega), List.getD_eq_getElem?_getD, List.getElem?_eq_getElem hj]
    rfl
  · rw [List.getElem?_eq_none (by rw [List.length_take]; omega), List.getElem?_eq_none (by omega)]
end Go.Proofs.Ytejmmjedognaaaa

namespace Go.Proofs.Ytejmmjedognaaaa
open Go.RowKit Go.Shelf
open St

set_option maxRecDepth 100000 in
theorem bi_wt {s : ByteArray} (h : s.size ≤ 1000) : (biT s).wt ≤ 300 := by
  have e : (biT s).wt = 1 + s.size / 8 := by simp [biT, Tm.wt]
  omega
set_option maxRecDepth 100000 in
theorem str_sz (l : List Nat) : (Wr.str l).size = l.length := by simp [Wr.str, ByteArray.size]
def nw (l : List Nat) : Nat := (l.length + 7) / 8
def pws (l : List Nat) (f m : Int) : List Int := hdZ 3 (nw l + 1) :: ((l.length : Int) :: lay l) ++ [hdZ 5 3, 76, f, m]
def pp (l : List Nat) : Int := (9 + nw l + 2) * 8 + 4
def pgs (l : List Nat) (f m : Int) : List Frg := [⟨9, pws l f m⟩, ⟨0, []⟩]
def pdp (l : List Nat) (f m : Int) : Dmp := ⟨⟨9, pws l f m⟩, ⟨0, []⟩, nw l + 6, 0, [], [76, pp l], []⟩
set_option maxRecDepth 100000 in
theorem pws_len (l : List Nat) (f m : Int) : (pws l f m).length = nw l + 6 := by
  simp [pws, lay_len, nw]
section
variable {l : List Nat} {f m : Int} (hl : l.length ≤ 64) (hs : Wr.Small l) (hf : 0 ≤ f ∧ f < 70) (hm : 0 ≤ m ∧ m < 70)
set_option maxRecDepth 100000 in
theorem p_at9 : atL (pgs l f m) 9 = pws l f m := by
  unfold pgs atL
  rw [if_pos ⟨by simp, by simp, by simp only [pws_len]; omega⟩]
  rfl
set_option maxRecDepth 100000 in
theorem p_atp : atL (pgs l f m) (9 + nw l + 2) = [hdZ 5 3, 76, f, m] := by
  unfold pgs atL
  rw [if_pos ⟨by simp, by simp only; omega, by simp only [pws_len]; omega⟩]
  have e : ((9 + (nw l : Int) + 2) - 9).toNat = nw l + 2 := by omega
  simp only [e]
  unfold pws
  rw [List.cons_append, List.cons_append, List.drop_succ_cons, List.drop_succ_cons]
  rw [List.drop_append_of_le_length (by rw [lay_len]; exact Nat.le_refl _), List.drop_of_length_le (by rw [lay_len]; exact Nat.le_refl _)]
  rfl
include hl
set_option maxRecDepth 100000 in
theorem p_box : boxO (pgs l f m) 76 = some (3, (l.length : Int) :: lay l) := by
  have e : ldZ 76 = 9 := by decide
  unfold boxO
  rw [e, p_at9]
  unfold pws
  have hn : nw l ≤ 8 := by unfold nw; omega
  rw [List.cons_append, boxZ, if_pos]
  · have h1 : hdZ 3 (nw l + 1) / 8 % 8 = 3 := by unfold hdZ; omega
    have h2 : (hdZ 3 (nw l + 1) / 64).toNat = nw l + 1 := by unfold hdZ; omega
    rw [h1, h2, List.cons_append, List.take_succ_cons, List.take_append_of_le_length (by rw [lay_len]; exact Nat.le_refl _), List.take_of_length_le (by rw [lay_len]; exact Nat.le_refl _)]
  · refine ⟨by decide, ?_, ?_⟩
    · unfold ptB hdB
      have h1 : hdZ 3 (nw l + 1) % 8 = 6 := by unfold hdZ; omega
      have h2 : hdZ 3 (nw l + 1) / 8 % 8 = 3 := by unfold hdZ; omega
      have h3 : hdZ 3 (nw l + 1) / 64 = nw l + 1 := by unfold hdZ; omega
      rw [h1, h2, h3]
      simp
      omega
    · have h3 : hdZ 3 (nw l + 1) / 64 = nw l + 1 := by unfold hdZ; omega
      rw [h3]
      simp [lay_len, nw]
      omega
omit hl in
set_option maxRecDepth 100000 in
theorem p_boxp : boxO (pgs l f m) (pp l) = some (5, [76, f, m]) := by
  have e : ldZ (pp l) = 9 + nw l + 2 := by unfold ldZ pp; rw [if_neg (by omega)]; omega
  unfold boxO
  rw [e, p_atp, boxZ, if_pos]
  · rfl
  · refine ⟨by unfold pp; omega, by decide, by simp [hdZ]⟩
include hs
set_option maxRecDepth 100000 in
theorem p_byR (S : List Slt) (dp : Bool) : byR S dp 3 ((l.length : Int) :: lay l) = (Wr.str l, (l.length : Int), true) := by
  unfold byR
  rw [if_pos ⟨rfl, by simp⟩]
  unfold byH
  have e : smlZ (((l.length : Int) :: lay l).getD 0 0) 64 = l.length := by
    rw [List.getD_cons_zero]; unfold smlZ; rw [if_neg (by omega)]
  rw [e, if_neg (by omega), List.drop_succ_cons, List.drop_zero, Int.toNat_natCast, lay_pk hs]
set_option maxRecDepth 100000 in
theorem p_obj : objO (pgs l f m) 76 = some (3, (l.length : Int) :: lay l) := by
  have ho : outO (pgs l f m) 76 = some (3, (l.length : Int) :: lay l) := by
    unfold outO
    rw [if_neg (by decide), p_box hl]
  unfold objO
  rw [ho]
  simp only
  rw [if_pos]
  unfold formO
  rw [if_neg (by decide), if_neg (by decide), if_neg (by decide), if_neg (by decide), if_pos rfl, p_byR hl hs]
include hf hm
set_option maxRecDepth 100000 in
theorem p_sub (S : List Slt) (dp : Bool) : subR (pgs l f m) S dp [76, f, m] = if (l.length : Int) - f < m then (⟨#[]⟩, false) else ((Wr.str l).extract f.toNat (f.toNat + m.toNat), true) := by
  unfold subR
  rw [if_neg (by simp)]
  have e1 : smlZ (([76, f, m] : List Int).getD 1 0) 400 = f := by show smlZ f 400 = f; unfold smlZ; rw [if_neg (by omega)]
  have e2 : smlZ (([76, f, m] : List Int).getD 2 0) 400 = m := by show smlZ m 400 = m; unfold smlZ; rw [if_neg (by omega)]
  rw [e1, e2, show ([76, f, m] : List Int).getD 0 0 = 76 from rfl, p_box hl]
  unfold sbZ
  simp only
  rw [if_neg (by omega), p_byR hl hs]
  simp only
  by_cases h : (l.length : Int) - f < m
  · rw [if_pos (.inr h), if_pos h]
  · rw [if_neg (fun e => by rcases e with e | e; cases e; exact h e), if_neg h, if_neg (by simp)]
set_option maxRecDepth 100000 in
theorem p_objp : objO (pgs l f m) (pp l) = if (l.length : Int) - f < m then none else some (5, [76, f, m]) := by
  have ho : outO (pgs l f m) (pp l) = some (5, [76, f, m]) := by
    unfold outO
    rw [if_neg (by unfold pp; omega), p_boxp]
  unfold objO
  rw [ho]
  simp only
  have hk : formO (pgs l f m) 5 [76, f, m] = (subR (pgs l f m) [] false [76, f, m]).2 := by
    unfold formO
    rw [if_neg (by decide), if_neg (by decide), if_neg (by decide), if_neg (by decide), if_neg (by decide), if_neg (by decide), if_pos rfl]
  rw [hk, p_sub hl hs hf hm]
  by_cases h : (l.length : Int) - f < m
  · rw [if_pos h, if_pos h]; rfl
  · rw [if_neg h, if_neg h]; rfl
omit hf hm in
set_option maxRecDepth 100000 in
theorem p_rd : Rd (pgs l f m) [] 76 (biT (Wr.str l)) := by
  refine ⟨1, ?_⟩
  unfold rdF
  rw [if_neg (by decide), if_neg (by decide), if_neg (by decide), if_neg (by decide), if_neg (by decide), p_obj hl hs]
  simp only
  rw [if_neg (by decide)]
  have e : txO (pgs l f m) [] 3 ((l.length : Int) :: lay l) = (Wr.str l, true) := by
    unfold txO
    rw [if_neg (by decide), p_byR hl hs]
  unfold lfO
  rw [if_neg (by decide), if_neg (by decide), e]
  rfl
omit hs hf hm in
set_option maxRecDepth 100000 in
theorem p_plain : plB (pp l) = true := by
  have h1 : pp l % 8 = 4 := by unfold pp; omega
  have h2 : ldZ (pp l) = 9 + nw l + 2 := by unfold ldZ pp; rw [if_neg (by omega)]; omega
  unfold plB
  rw [h1, h2]
  unfold pmB
  unfold nw
  simp
  omega
set_option maxRecDepth 100000 in
theorem p_rdp (h : f + m ≤ l.length) : Rd (pgs l f m) [] (pp l) (biT ((Wr.str l).extract f.toNat (f.toNat + m.toNat))) := by
  refine ⟨1, ?_⟩
  have h1 : pp l % 8 = 4 := by unfold pp; omega
  unfold rdF
  rw [p_plain hl, h1, if_neg (by decide), if_neg (by decide), if_neg (by decide), if_neg (by decide), if_neg (by decide), p_objp hl hs hf hm, if_neg (by omega)]
  simp only
  rw [if_neg (by decide)]
  have e : txO (pgs l f m) [] 5 [76, f, m] = ((Wr.str l).extract f.toNat (f.toNat + m.toNat), true) := by
    unfold txO
    rw [if_pos rfl, p_sub hl hs hf hm, if_neg (by omega)]
  unfold lfO
  rw [if_neg (by decide), if_neg (by decide), e]
  rfl
set_option maxRecDepth 100000 in
theorem p_rdn (h : ¬ f + m ≤ l.length) (t : Tm) : ¬ Rd (pgs l f m) [] (pp l) t := by
  rintro ⟨n, hn⟩
  have h1 : pp l % 8 = 4 := by unfold pp; omega
  rcases n with _ | n
  · simp [rdF] at hn
  · unfold rdF at hn
    rw [p_plain hl, h1, if_neg (by decide), if_neg (by decide), if_neg (by decide), if_neg (by decide), if_neg (by decide), p_objp hl hs hf hm, if_pos (by omega)] at hn
    cases hn
omit hl hs hf hm in
set_option maxRecDepth 100000 in
theorem p_sepa : Sepa (pgs l f m) := by
  have hw := pws_len l f m
  have e : neF (pgs l f m) = [⟨9, pws l f m⟩] := by
    unfold neF pgs
    rw [List.filter_cons, if_pos (by simp only [hw]; simp), List.filter_cons, if_neg (by simp)]
    rfl
  unfold Sepa
  rw [e]
  exact ⟨fun g hg => by rw [List.mem_singleton.1 hg]; unfold InR; simp, List.pairwise_singleton _ _⟩
omit hl hs hf hm in
set_option maxRecDepth 100000 in
theorem p_ms : msB (pdp l f m) = true := by
  have hw := pws_len l f m
  unfold msB pdp
  simp only [hw]
  simp
  omega
set_option maxRecDepth 100000 in
theorem p_rch {x : Int} : Rch (pgs l f m) [76, pp l] x → x = 76 ∨ x = pp l := by
  intro h
  induction h with
  | root h ho => simpa using h
  | step hy hk h ho ih =>
    rcases ih with rfl | rfl
    · rw [p_obj hl hs] at hk
      injection hk with hk
      injection hk with h1 h2
      subst h1
      exact absurd h (by simp [ldsO])
    · rw [p_objp hl hs hf hm] at hk
      split at hk
      · cases hk
      · injection hk with hk
        injection hk with h1 h2
        subst h1 h2
        left
        simpa [ldsO] using h
set_option maxRecDepth 100000 in
theorem p_why : whyO (pgs l f m) [] (pdp l f m) = if f + m ≤ l.length then ⟨#[]⟩ else ⟨#[114, 111, 111, 116, 115]⟩ := by
  by_cases h : f + m ≤ l.length
  · rw [if_pos h]
    refine why_no ⟨p_sepa, p_ms⟩ (fun x hx => ?_) rfl ⟨(fun a ha => absurd ha (by simp [pdp])), (by simp [pdp]), (fun x ws hx ho => ?_)⟩
    · have hx : x = 76 ∨ x = pp l := by simpa [pdp] using hx
      rcases hx with rfl | rfl
      · exact ⟨_, p_rd hl hs, bi_wt (by rw [str_sz]; omega)⟩
      · exact ⟨_, p_rdp hl hs hf hm h, bi_wt (by rw [ByteArray.size_extract, str_sz]; omega)⟩
    · exfalso
      rcases p_rch hl hs hf hm hx with rfl | rfl
      · rw [p_obj hl hs] at ho
        injection ho with ho
        injection ho with h1 _
        cases h1
      · rw [p_objp hl hs hf hm, if_neg (by omega)] at ho
        injection ho with ho
        injection ho with h1 _
        cases h1
  · rw [if_neg h]
    refine why_roo ⟨p_sepa, p_ms⟩ (fun hr => ?_)
    obtain ⟨t, ht, _⟩ := hr (pp l) (by simp [pdp])
    exact p_rdn hl hs hf hm h t ht
set_option maxRecDepth 100000 in
theorem p_live (h : f + m ≤ l.length) {rl : List OR} (hr : Rchd (pgs l f m) [76, pp l] rl) : szO rl = nw l + 6 := by
  rw [szO_x (fun p hp => (hr.1.2 p hp).2)]
  have hne : (76 : Int) ≠ pp l := by unfold pp; omega
  have h7 : (76 : Int) ∈ rl.map (·.x) := (hr.2 76).2 (.root (by simp) (by rw [p_obj hl hs]; rfl))
  have hp : pp l ∈ rl.map (·.x) := (hr.2 (pp l)).2 (.root (by simp) (by rw [p_objp hl hs hf hm, if_neg (by omega)]; rfl))
  have hall : ∀ x ∈ rl.map (·.x), x ∈ [76, pp l] := fun x hx => by
    rcases p_rch hl hs hf hm ((hr.2 x).1 hx) with e | e <;> simp [e]
  have a1 := sum_sub (szX_pos (pgs l f m)) (b := [76, pp l]) hr.1.1 hall
  have a2 := sum_sub (szX_pos (pgs l f m)) (a := [76, pp l]) (b := rl.map (·.x)) (by simp [hne]) (fun x hx => by
    rcases List.mem_cons.1 hx with rfl | hx
    · exact h7
    · rw [List.mem_singleton.1 hx]; exact hp)
  have e1 : szX (pgs l f m) 76 = nw l + 2 := by
    unfold szX
    rw [p_obj hl hs]
    simp only
    rw [if_neg (by decide), List.length_cons, lay_len]
    unfold nw
    omega
  have e2 : szX (pgs l f m) (pp l) = 4 := by
    unfold szX
    rw [p_objp hl hs hf hm, if_neg (by omega)]
    simp
  have e3 : (List.map (szX (pgs l f m)) [76, pp l]).sum = nw l + 6 := by
    simp only [List.map_cons, List.map_nil, List.sum_cons, List.sum_nil, e1, e2]
    omega
  rw [e3] at a1 a2
  omega
end
end Go.Proofs.Ytejmmjedognaaaa

namespace Go.Proofs.Ytejmmjedognaaaa
open Go.RowKit

set_option maxRecDepth 100000 in
theorem low_nval (x : Int) (m : Nat) (hm : 0 < m) (hm' : m ≤ 1000000000) : ∃ r : Nat, r < m ∧ wrap64 ((IntKind.u64.wrap x).tmod m) = (r : Int) := by
  have h0 : 0 ≤ IntKind.u64.wrap x := by rw [IntKind.wrap_u64]; omega
  generalize IntKind.u64.wrap x = y at *
  have h1 : y.tmod m = y % m := Int.tmod_eq_emod_of_nonneg h0
  have h2 := Int.emod_nonneg y (show (m : Int) ≠ 0 by omega)
  have h3 := Int.emod_lt_of_pos y (show (0 : Int) < m by omega)
  rw [h1]
  generalize y % (m : Int) = z at *
  exact ⟨z.toNat, by omega, by simp only [wrap64]; omega⟩
set_option maxRecDepth 100000 in
theorem low_nat (x : Int) (m : Nat) (hm : 0 < m) (hm' : m ≤ 1000000000) : ∃ r : Nat, r < m ∧
    ∀ w : World, Calls Try.prog 5 #[.int .i64 x, .int .i64 m] w fun e w' => e = .returned (.int .i64 r) ∧ w = w' := by
  obtain ⟨r, h1, h2⟩ := low_nval x m hm hm'
  have H2 := Lib.hid h2
  clear h2
  refine ⟨r, h1, fun w => ?_⟩
  go_enter Try.func5, Try.ntmps5
  go_wp2
  go_ret
  exact ⟨by rw [← H2.out]; rfl, rfl⟩
set_option maxRecDepth 100000 in
theorem low_int (x m : Int) (hm : 0 < m) (hm' : m ≤ 1000000000) : ∃ r : Nat, (r : Int) < m ∧
    ∀ w : World, Calls Try.prog 5 #[.int .i64 x, .int .i64 m] w fun e w' => e = .returned (.int .i64 r) ∧ w = w' := by
  obtain ⟨p, rfl⟩ : ∃ p : Nat, m = (p : Int) := ⟨m.toNat, by omega⟩
  obtain ⟨r, h1, h2⟩ := low_nat x p (by omega) (by omega)
  exact ⟨r, by omega, h2⟩
end Go.Proofs.Ytejmmjedognaaaa
