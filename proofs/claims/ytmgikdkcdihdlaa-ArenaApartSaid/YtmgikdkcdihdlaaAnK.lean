/-
  THE LAW ArenaApart: ints that came in; a number below a bound; what stands while it goes on.
-/
import Derived.Test.YtmgikdkcdihdlaaAnJ
namespace Go.Proofs.Ytmgikdkcdihdlaa
open Go.RowKit Go.ChangeShapes Go.WideShapes
namespace An

/-- Integers in memory. -/
structure Ns (w : World) (A : Option Addr) (n : Nat) (zs : List Int) : Prop where
  len : zs.length = n
  le : n ≤ maxLen
  rng : ∀ z ∈ zs, -9223372036854775808 ≤ z ∧ z ≤ 9223372036854775807
  el : 0 < n → ∃ b o, A = some ⟨b, o, none⟩ ∧ b < w.heap.size ∧ ∀ (j : Nat) (z : Int), zs[j]? = some z → w.cell? ⟨b, o + j, none⟩ = some (.int .i64 z)
set_option maxRecDepth 100000 in
theorem Ns.below {w w' : World} {A : Option Addr} {n : Nat} {zs : List Int} (h : Ns w A n zs) (hb : Below w.heap.size w w') : Ns w' A n zs := by
  refine ⟨h.len, h.le, h.rng, fun hn => ?_⟩
  obtain ⟨b, o, e, hlt, hc⟩ := h.el hn
  exact ⟨b, o, e, Nat.lt_of_lt_of_le hlt hb.size, fun j z ej => (hb.cell (p := ⟨b, o + j, none⟩) hlt).trans (hc j z ej)⟩
set_option maxRecDepth 100000 in
theorem Ns.get {w : World} {A : Option Addr} {n : Nat} {zs : List Int} (h : Ns w A n zs) (j : Nat) (hj : j < n) : ∃ b o z, A = some ⟨b, o, none⟩ ∧ b < w.heap.size ∧ zs[j]? = some z ∧ w.cell? ⟨b, o + j, none⟩ = some (.int .i64 z) ∧ -9223372036854775808 ≤ z ∧ z ≤ 9223372036854775807 := by
  obtain ⟨b, o, e, hlt, hc⟩ := h.el (by omega)
  have hg : zs[j]? = some (zs[j]'(by rw [h.len]; exact hj)) := List.getElem?_eq_getElem (by rw [h.len]; exact hj)
  have hr := h.rng _ (List.mem_of_getElem? hg)
  exact ⟨b, o, _, e, hlt, hg, hc j _ hg, hr.1, hr.2⟩
set_option maxRecDepth 100000 in
theorem open_ns {H : Type} {enc : TypeId × Value → H} {W : World} {v : Value} {d : DataW H} {p : List MemPlace}
    (hv : ∃ a n c, v = .slice a n c) (h : DataW.Trod enc Try.prog W 0 (fun _ => true) true 44 v d p) :
    ∃ (A : Option Addr) (n c : Nat) (zs : List Int), v = .slice A n c ∧ Ns W A n zs := by
  obtain ⟨a, n, c, rfl⟩ := hv
  obtain ⟨fuel, hf⟩ := h
  have hf' : DataW.trod enc Try.prog W 0 (fun _ => true) true fuel 44 [.slice a n c] = some (d, p) := by simpa [Value.cells] using hf
  rcases open_ints Try.underlying44 Try.underlying3 (by kernel_rfl) hf' with ⟨e1, _⟩ | ⟨a', len, cap, zs, e1, _, hl, hm, hz, _, hcell, hwz⟩
  · simp only [List.cons.injEq, and_true] at e1
    cases e1
    exact ⟨none, 0, 0, [], rfl, rfl, Nat.zero_le _, by simp, fun h => absurd h (by omega)⟩
  · simp only [List.cons.injEq, and_true] at e1
    cases e1
    simp only [if_true] at hz
    refine ⟨some a', n, c, zs.take n, rfl, ?_, Nat.le_trans hl hm, fun z hz' => ?_, fun hn => ?_⟩
    · rw [List.length_take]; omega
    · have := hwz z (List.mem_of_mem_take hz')
      simp [Lit.wf, IntKind.min, IntKind.max, IntKind.signed, IntKind.bits] at this
      omega
    · have h0 := hcell 0 (by omega)
      have hspot : a'.spot = none := by
        have := World.cell?_spot h0
        simpa [Addr.add] using this
      obtain ⟨b, o, sp⟩ := a'
      simp only at hspot
      subst hspot
      refine ⟨b, o, rfl, ?_, fun j z e => ?_⟩
      · have := World.block_lt_of_cell? W _ h0
        rw [addN] at this
        exact this
      · have hj : j < n := by
          have := (List.getElem?_eq_some_iff.1 e).1
          rw [List.length_take] at this
          omega
        rw [List.getElem?_take_of_lt hj] at e
        rw [← addN, hcell j (by omega), List.getD_eq_getElem?_getD, e]
        rfl


set_option maxRecDepth 100000 in
theorem low_nval (x : Int) (m : Nat) (hm : 0 < m) (hm' : m ≤ 1000000000) : ∃ r : Nat, r < m ∧ wrap64 ((IntKind.u64.wrap x).tmod m) = (r : Int) := by
  have h0 : 0 ≤ IntKind.u64.wrap x := by rw [IntKind.wrap_u64]; omega
  generalize IntKind.u64.wrap x = y at *
  have h1 : y.tmod m = y % m := Int.tmod_eq_emod_of_nonneg h0
  have h2 := Int.emod_nonneg y (show (m : Int) ≠ 0 by omega)
  have h3 := Int.emod_lt_of_pos y (show (0 : Int) < m by omega)
  rw [h1]
  generalize y % (m : Int) = z at *
  exact ⟨z.toNat, by omega, by simp only [wrap64]; omega⟩
set_option maxRecDepth 100000 in
theorem low_nat (x : Int) (m : Nat) (hm : 0 < m) (hm' : m ≤ 1000000000) : ∃ r : Nat, r < m ∧
    ∀ w : World, Calls Try.prog 21 #[.int .i64 x, .int .i64 m] w fun e w' => e = .returned (.int .i64 r) ∧ w = w' := by
  obtain ⟨r, h1, h2⟩ := low_nval x m hm hm'
  have H2 := Lib.hid h2
  clear h2
  refine ⟨r, h1, fun w => ?_⟩
  go_enter Try.func21, Try.ntmps21
  go_wp2
  go_ret
  exact ⟨by rw [← H2.out]; rfl, rfl⟩
set_option maxRecDepth 100000 in
theorem low_int (x m : Int) (hm : 0 < m) (hm' : m ≤ 1000000000) : ∃ r : Nat, (r : Int) < m ∧
    ∀ w : World, Calls Try.prog 21 #[.int .i64 x, .int .i64 m] w fun e w' => e = .returned (.int .i64 r) ∧ w = w' := by
  obtain ⟨p, rfl⟩ : ∃ p : Nat, m = (p : Int) := ⟨m.toNat, by omega⟩
  obtain ⟨r, h1, h2⟩ := low_nat x p (by omega) (by omega)
  exact ⟨r, by omega, h2⟩
end An
open An

set_option maxRecDepth 100000 in
theorem und_is : Try.prog.underlying 44 = some (.slice 3) := by kernel_rfl
set_option maxRecDepth 100000 in
theorem info_i : (Try.prog.info? 3).map (fun i => (i.zero, i.size, i.bytes)) = some (some (.int .i64 0), 1, 8) := by kernel_rfl
set_option maxRecDepth 100000 in
theorem info_i' : ∃ i, Try.prog.info? 3 = some i ∧ i.zero = some (.int .i64 0) ∧ i.size = 1 ∧ i.bytes = 8 := by
  have h := info_i
  cases hi : Try.prog.info? 3 with
  | none => rw [hi] at h; simp at h
  | some i => rw [hi] at h; simp at h; exact ⟨i, rfl, h.1, h.2.1, h.2.2⟩

/-- A row of ints of the law's own. -/
def Rwi (w : World) (B : Nat) (A : Option Addr) (c : Nat) (xs : List Int) : Prop := w.ownsRow B 3 1 (.slice A xs.length c) xs.length (xs.map (Value.int .i64))
namespace Rwi
variable {w w' : World} {B : Nat} {A : Option Addr} {c : Nat} {xs : List Int}
set_option maxRecDepth 100000 in
theorem nil (w : World) (B : Nat) : Rwi w B none 0 [] := World.ownsRow_nil _ _ _ _
set_option maxRecDepth 100000 in
theorem ty (h : Rwi w B A c xs) {k : Nat} (hk : A.map (·.block) = some k) : (∃ cur, w.heap[k]? = some (.cells cur 3 (0, 0))) ∧ B ≤ k := by
  rcases h.2 with ⟨h0, _⟩ | ⟨g, cap, cur, hv, hb, hg, _⟩
  · injection h0 with e1 _ _
    rw [e1] at hk
    cases hk
  · cases hv
    cases hk
    exact ⟨⟨cur, hg⟩, hb⟩
set_option maxRecDepth 100000 in
theorem lt (h : Rwi w B A c xs) {k : Nat} (hk : A.map (·.block) = some k) : k < w.heap.size := by
  obtain ⟨⟨cur, hg⟩, _⟩ := h.ty hk
  exact (Array.getElem?_eq_some_iff.1 hg).1
set_option maxRecDepth 100000 in
theorem some (h : Rwi w B A c xs) (hn : 0 < xs.length) : ∃ g, A = Option.some ⟨g, 0, none⟩ := by
  rcases h.2 with ⟨_, h0⟩ | ⟨g, cap, cur, hv, _, hg, _⟩
  · omega
  · cases hv
    exact ⟨g, rfl⟩
set_option maxRecDepth 100000 in
theorem bound (h : Rwi w B A c xs) : xs.length ≤ c ∧ c ≤ maxLen := by
  rcases h.2 with ⟨h0, h0'⟩ | ⟨g, cap, cur, hv, hbg, hg, h1, h2, _⟩
  · injection h0 with _ _ e3
    exact ⟨by omega, by rw [e3]; exact Nat.zero_le _⟩
  · cases hv; exact ⟨h1, h2⟩
set_option maxRecDepth 100000 in
theorem chg {K : Nat → Prop} (h : Rwi w B A c xs) (hc : Chg K w w') (hk : ∀ k, A.map (·.block) = Option.some k → ¬ K k) : Rwi w' B A c xs := by
  refine ⟨h.1, ?_⟩
  rcases h.2 with h0 | ⟨g, cap, cur, hv, hb, hg, rest⟩
  · exact .inl h0
  · refine .inr ⟨g, cap, cur, hv, hb, ?_, rest⟩
    cases hv
    exact (hc.block g (Array.getElem?_eq_some_iff.1 hg).1 (hk g rfl)).trans hg
set_option maxRecDepth 100000 in
theorem el {g : Nat} (h : Rwi w B (Option.some ⟨g, 0, none⟩) c xs) {i : Nat} (hi : i < xs.length) : w.cell? ⟨g, i, none⟩ = Option.some (.int .i64 (xs.getD i 0)) := by
  rw [World.ownsRow.cellAt h i (by omega)]
  simp [hi]
set_option maxRecDepth 100000 in
theorem pop {g : Nat} {x : Int} (h : Rwi w B (Option.some ⟨g, 0, none⟩) c (xs ++ [x])) : Rwi w B (Option.some ⟨g, 0, none⟩) c xs := by
  unfold Rwi at h
  rw [List.length_append, List.map_append] at h
  exact ownsRow_pop (by simp) h
set_option maxRecDepth 100000 in
theorem app (h : Rwi w B A c xs) (hB : B ≤ w.heap.size) (hn : xs.length ≤ 100000) (g0 : Nat) (x : Int) (ha : w.cell? ⟨g0, 0, none⟩ = Option.some (.int .i64 x)) :
    ∃ g c' w', (Builtin.append_ #[44, 44] 44 #[.slice A xs.length c, .slice (Option.some ⟨g0, 0, none⟩) 1 1]).run Try.prog w = .ok (.slice (Option.some ⟨g, 0, none⟩) (xs.length + 1) c') w' ∧ Rwi w' B (Option.some ⟨g, 0, none⟩) c' (xs ++ [x]) ∧ Chg (fun k => A.map (·.block) = Option.some k) w w' ∧
      (A.map (·.block) = Option.some g ∨ w.heap.size ≤ g) := by
  obtain ⟨i, hi, hz, hs, hb⟩ := info_i'
  obtain ⟨v', w', hrun, ho, hg, _, hloc⟩ := run_append_own_at (P := Try.prog) w B 44 44 3 i (.int .i64 0) 1 8 und_is hi hz hs hb rfl (by decide) (.slice A xs.length c) xs.length (xs.map (Value.int .i64)) h ⟨g0, 0, none⟩ 1 1 [.int .i64 x] rfl (by
    intro j u hu
    cases j with
    | zero =>
      rw [addN]
      simp at hu
      rw [← hu]
      exact ha
    | succ j => simp at hu) (by intro u hu; simp at hu; subst hu; rfl) (by unfold maxLen; omega) (by omega) hB
  rcases ho.2 with ⟨rfl, h0⟩ | ⟨g, cap, cur, rfl, rest⟩
  · omega
  · rw [own_of] at hg hloc
    rw [own_of] at hloc
    refine ⟨g, cap, w', hrun, ?_, Chg.grown hg (fun k e => e), ?_⟩
    · unfold Rwi
      rw [List.length_append, List.map_append]
      exact ho
    · rcases hloc with e | e
      · exact .inl e.symm
      · exact .inr (by simp at e; omega)
end Rwi

/-- The arena, the row of addresses, the row of lengths. -/
structure ApI (W : World) (S b : Nat) (s : Ars) (A M : Option Addr) (ca cm : Nat) (xs ys : List Int) (w : World) : Prop where
  a : Arn w S b s
  r1 : Rwi w W.heap.size A ca xs
  r2 : Rwi w W.heap.size M cm ys
  dis : ∀ k, A.map (·.block) = some k → M.map (·.block) ≠ some k
  hS : W.heap.size ≤ S
  hb : W.heap.size ≤ b
  be : Below W.heap.size W w
namespace ApI
variable {W w w' : World} {S b : Nat} {s s' : Ars} {A M : Option Addr} {ca cm : Nat} {xs ys : List Int}
set_option maxRecDepth 100000 in
theorem drewN (h : ApI W S b s A M ca cm xs ys w) (q : Nat) : ApI W S b s A M ca cm xs ys (w.drewN q) := ⟨h.a.drewN q, h.r1, h.r2, h.dis, h.hS, h.hb, ⟨h.be.os, h.be.tape, h.be.output, h.be.size, h.be.block⟩⟩
set_option maxRecDepth 100000 in
theorem below (h : ApI W S b s A M ca cm xs ys w) (hb : Below w.heap.size w w') : ApI W S b s A M ca cm xs ys w' :=
  ⟨h.a.below hb, h.r1.chg (Chg.below (K := fun _ => False) hb) (fun _ _ h => h), h.r2.chg (Chg.below (K := fun _ => False) hb) (fun _ _ h => h), h.dis, h.hS, h.hb, h.be.trans (hb.mono h.be.size)⟩
set_option maxRecDepth 100000 in
theorem off {c : Nat} {A : Option Addr} {xs : List Int} (ha : Arn w S b s) {B : Nat} (h : Rwi w B A c xs) : ∀ k, A.map (·.block) = some k → ¬ kA S b k := by
  rintro k hk (rfl | rfl)
  · obtain ⟨⟨cur, hg⟩, _⟩ := h.ty hk
    rw [ha.blk] at hg
    injection hg with hg
    injection hg with _ hg
    exact absurd hg (by decide)
  · obtain ⟨⟨cur, hg⟩, _⟩ := h.ty hk
    obtain ⟨es, clock, hb⟩ := ha.map.is
    rw [hb] at hg
    cases hg
set_option maxRecDepth 100000 in
theorem of (h : ApI W S b s A M ca cm xs ys w) (hp : AnP w S b s' w') : ApI W S b s' A M ca cm xs ys w' :=
  ⟨hp.1, h.r1.chg hp.2 (off h.a h.r1), h.r2.chg hp.2 (off h.a h.r2), h.dis, h.hS, h.hb, h.be.trans (hp.2.toBelow (fun k hk => by rcases hk with rfl | rfl; exact h.hS; exact h.hb) h.be.size)⟩
end ApI
/-- What the two appends leave. -/
def ApP (W : World) (S b : Nat) (s : Ars) (A M : Option Addr) (ca cm : Nat) (xs ys : List Int) (w : World) (x y : Int) (g1 c1 : Nat) (w4 : World) (g2 c2 : Nat) (w6 : World) : Prop :=
  (Builtin.append_ #[44, 44] 44 #[.slice A xs.length ca, .slice (some ⟨w.heap.size, 0, none⟩) 1 1]).run Try.prog (w.alloc (.cells #[.int .i64 x] 3)) = .ok (.slice (some ⟨g1, 0, none⟩) (xs.length + 1) c1) w4 ∧
  (Builtin.append_ #[44, 44] 44 #[.slice M ys.length cm, .slice (some ⟨w4.heap.size, 0, none⟩) 1 1]).run Try.prog (w4.alloc (.cells #[.int .i64 y] 3)) = .ok (.slice (some ⟨g2, 0, none⟩) (ys.length + 1) c2) w6 ∧
  ApI W S b s (some ⟨g1, 0, none⟩) (some ⟨g2, 0, none⟩) c1 c2 (xs ++ [x]) (ys ++ [y]) w6
set_option maxRecDepth 100000 in
theorem ap_prep {W w : World} {S b : Nat} {s : Ars} {A M : Option Addr} {ca cm : Nat} {xs ys : List Int} (h : ApI W S b s A M ca cm xs ys w) (hx : xs.length ≤ 1000) (hy : ys.length ≤ 1000) (x y : Int) :
    ∃ g1 c1 w4 g2 c2 w6, ApP W S b s A M ca cm xs ys w x y g1 c1 w4 g2 c2 w6 := by
  have hb3 : Below w.heap.size w (w.alloc (.cells #[.int .i64 x] 3)) := (Below.refl _ w).alloc (Nat.le_refl _) _
  have h3 := h.below hb3
  obtain ⟨g1, c1, w4, run1, r1, k1, l1⟩ := h3.r1.app h3.be.size (by omega) w.heap.size x (by
    rw [cell_of_row _ w.heap.size 0 _ _ (0, 0) (heap_alloc_new w _)]
    rfl)
  have hBsz := h3.be.size
  have f1 : ∀ k, A.map (·.block) = some k → ¬ kA S b k := ApI.off h3.a h3.r1
  have hk1 : W.heap.size ≤ g1 := (r1.ty rfl).2
  have a4 : Arn w4 S b s := h3.a.keep k1 (fun e => f1 S e (.inl rfl)) (fun e => f1 b e (.inr rfl))
  have m4 : Rwi w4 W.heap.size M cm ys := h3.r2.chg k1 (fun k hk e => h3.dis k e hk)
  have be4 : Below W.heap.size W w4 := h3.be.trans (k1.toBelow (fun k hk => (h3.r1.ty hk).2) h3.be.size)
  have d4 : ∀ k, M.map (·.block) = some k → k ≠ g1 := by
    rintro k hk rfl
    rcases l1 with e | e
    · exact h3.dis k e hk
    · have := h3.r2.lt hk
      omega
  have hb5 : Below w4.heap.size w4 (w4.alloc (.cells #[.int .i64 y] 3)) := (Below.refl _ w4).alloc (Nat.le_refl _) _
  have m5 := m4.chg (Chg.below (K := fun _ => False) hb5) (fun _ _ h => h)
  have r5 := r1.chg (Chg.below (K := fun _ => False) hb5) (fun _ _ h => h)
  have a5 := a4.below hb5
  have be5 := be4.trans (hb5.mono be4.size)
  obtain ⟨g2, c2, w6, run2, r2, k2, l2⟩ := m5.app be5.size (by omega) w4.heap.size y (by
    rw [cell_of_row _ w4.heap.size 0 _ _ (0, 0) (heap_alloc_new w4 _)]
    rfl)
  have f2 : ∀ k, M.map (·.block) = some k → ¬ kA S b k := ApI.off a5 m5
  refine ⟨g1, c1, w4, g2, c2, w6, run1, run2, a5.keep k2 (fun e => f2 S e (.inl rfl)) (fun e => f2 b e (.inr rfl)), r5.chg k2 (fun k hk e => ?_), r2, ?_, h.hS, h.hb, be5.trans (k2.toBelow (fun k hk => (m5.ty hk).2) be5.size)⟩
  · cases hk
    exact d4 g1 e rfl
  · rintro k hk hk2
    cases hk
    cases hk2
    rcases l2 with e | e
    · exact d4 g1 e rfl
    · have h9 : g1 < (w4.alloc (.cells #[.int .i64 y] 3)).heap.size := r5.lt rfl
      omega
end Go.Proofs.Ytmgikdkcdihdlaa
