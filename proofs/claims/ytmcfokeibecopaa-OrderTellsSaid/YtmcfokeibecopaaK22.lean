/-
  TERMS THAT ARE WRITTEN OVER: what stays what it is, whatever shares memory.
  OverTerm: whatever shares memory, it ends, and changes the blocks of the term alone.
  PACKAGE fresh: terms that are copied apart; each row of a copy is one that was made (written by gen_ovb.py from the text on copies).
  PACKAGE order: Sort; each row of what it answers is one that was made (written by gen_ovd.py).
-/
import Derived.Test.YtmcfokeibecopaaK4
import Derived.Test.YtmcfokeibecopaaK8
import Derived.ArgAppend
import Derived.Test.YtmcfokeibecopaaK17
namespace Go.Proofs.Ytmcfokeibecopaa
open Go.RowKit

/-- What is written over a part. -/
def overR : TR := ⟨-9, 0, false, none, 0, 0, 0, ⟨#[]⟩, none, 0, 0⟩

/-- Rows of limbs stay rows of limbs, rows of records stay such; each record is what it was, or is written over; blocks that are not in S stay. -/
structure Ovr (S : Nat → Prop) (w w' : World) : Prop where
  os : w'.os = w.os
  tape : w'.tape = w.tape
  output : w'.output = w.output
  size : w.heap.size ≤ w'.heap.size
  rest : ∀ b, b < w.heap.size → ¬ S b → w'.heap[b]? = w.heap[b]?
  lim : ∀ b cs, S b → w.heap[b]? = some (.cells cs 60 (0, 0)) → ∃ cs', w'.heap[b]? = some (.cells cs' 60 (0, 0)) ∧ cs'.size = cs.size
  row : ∀ b cs, S b → w.heap[b]? = some (.cells cs 28 (0, 0)) → ∃ cs', w'.heap[b]? = some (.cells cs' 28 (0, 0)) ∧ cs'.size = cs.size ∧ ∀ i r, At7 w b (i * 7) r → At7 w' b (i * 7) r ∨ At7 w' b (i * 7) overR
section
variable {S : Nat → Prop} {w w' w2 : World}
set_option maxRecDepth 100000 in
theorem Ovr.of_below (h : Below w.heap.size w w') : Ovr S w w' where
  os := h.os
  tape := h.tape
  output := h.output
  size := h.size
  rest := fun b hb _ => h.block b hb
  lim := fun b cs _ e => ⟨cs, (h.block b (Array.getElem?_eq_some_iff.1 e).1).trans e, rfl⟩
  row := fun b cs _ e => ⟨cs, (h.block b (Array.getElem?_eq_some_iff.1 e).1).trans e, rfl, fun _ _ h7 => .inl (h7.keep (h.block b (Array.getElem?_eq_some_iff.1 e).1))⟩
set_option maxRecDepth 100000 in
theorem Ovr.refl (S : Nat → Prop) (w : World) : Ovr S w w := Ovr.of_below (Below.refl _ _)
set_option maxRecDepth 100000 in
theorem Ovr.trans (h : Ovr S w w') (k : Ovr S w' w2) : Ovr S w w2 where
  os := k.os.trans h.os
  tape := k.tape.trans h.tape
  output := k.output.trans h.output
  size := Nat.le_trans h.size k.size
  rest := fun b hb hn => (k.rest b (Nat.lt_of_lt_of_le hb h.size) hn).trans (h.rest b hb hn)
  lim := fun b cs hs e => by
    obtain ⟨c1, e1, z1⟩ := h.lim b cs hs e
    obtain ⟨c2, e2, z2⟩ := k.lim b c1 hs e1
    exact ⟨c2, e2, z2.trans z1⟩
  row := fun b cs hs e => by
    obtain ⟨c1, e1, z1, p1⟩ := h.row b cs hs e
    obtain ⟨c2, e2, z2, p2⟩ := k.row b c1 hs e1
    refine ⟨c2, e2, z2.trans z1, fun i r h7 => ?_⟩
    rcases p1 i r h7 with a | a
    · exact p2 i r a
    · exact .inr ((p2 i overR a).elim id id)
set_option maxRecDepth 100000 in
theorem Ovr.below (h : Ovr S w w') {base : Nat} (hS : ∀ b, S b → base ≤ b) (hb : base ≤ w.heap.size) : Below base w w' :=
  ⟨h.os, h.tape, h.output, h.size, fun k hk => h.rest k (Nat.lt_of_lt_of_le hk hb) (fun hs => by have := hS k hs; omega)⟩
set_option maxRecDepth 100000 in
theorem Ovr.drew (h : Ovr S w w') : Ovr S w w'.drew := h.trans (Ovr.of_below (Below.refl _ _).drew)
set_option maxRecDepth 100000 in
theorem Ovr.alloc (h : Ovr S w w') (o : Obj) : Ovr S w (w'.alloc o) := h.trans (Ovr.of_below ((Below.refl _ _).alloc (Nat.le_refl _) o))
set_option maxRecDepth 100000 in
/-- A row of limbs is written. -/
theorem Ovr.limbs {g N : Nat} {cs cs' : Array Value} (hg : w.grownBy w' (some g)) (hs : S g) (h : Rw w g N cs) (h' : Rw w' g N cs') : Ovr S w w' where
  os := hg.os
  tape := hg.tape
  output := hg.output
  size := hg.size
  rest := fun b hb hn => hg.block b hb (fun e => by injection e with e; subst e; exact hn hs)
  lim := fun b c _ e => by
    by_cases hbg : b = g
    · subst hbg
      have e1 := h.1
      rw [e] at e1
      injection e1 with e1
      injection e1 with e1
      subst e1
      exact ⟨cs', h'.1, by rw [h'.2, h.2]⟩
    · exact ⟨c, (hg.block b (Array.getElem?_eq_some_iff.1 e).1 (fun x => by injection x with x; exact hbg x)).trans e, rfl⟩
  row := fun b c _ e => by
    by_cases hbg : b = g
    · subst hbg
      have e1 := h.1
      rw [e] at e1
      injection e1 with e1
      injection e1 with _ e1
      exact absurd e1 (by decide)
    · have hb := hg.block b (Array.getElem?_eq_some_iff.1 e).1 (fun x => by injection x with x; exact hbg x)
      exact ⟨c, hb.trans e, rfl, fun i r h7 => .inl (h7.keep hb)⟩
set_option maxRecDepth 100000 in
theorem set_heap {w : World} {g x : Nat} {u : Value} {cs : Array Value} {ty : TypeId} (h : w.heap[g]? = some (.cells cs ty (0, 0))) : ∃ cs', (w.setCell ⟨g, x, none⟩ u).heap[g]? = some (.cells cs' ty (0, 0)) ∧ cs'.size = cs.size :=
  ⟨cs.setIfInBounds x u, by simp [World.setCell, Array.getElem?_modify, h], by simp⟩
set_option maxRecDepth 100000 in
theorem put7o_heap {w : World} {g x : Nat} {cs : Array Value} {ty : TypeId} (r : TR) (h : w.heap[g]? = some (.cells cs ty (0, 0))) : ∃ cs', (put7o w g x r).heap[g]? = some (.cells cs' ty (0, 0)) ∧ cs'.size = cs.size := by
  obtain ⟨c0, h0, z0⟩ := set_heap (x := x) (u := .int .i64 r.k) h
  obtain ⟨c1, h1, z1⟩ := set_heap (x := x + 1) (u := .int .i64 r.n) h0
  obtain ⟨c2, h2, z2⟩ := set_heap (x := x + 2) (u := .bool r.g) h1
  obtain ⟨c3, h3, z3⟩ := set_heap (x := x + 3) (u := .slice r.A r.ln r.lc) h2
  obtain ⟨c4, h4, z4⟩ := set_heap (x := x + 4) (u := .int .u64 r.u) h3
  obtain ⟨c5, h5, z5⟩ := set_heap (x := x + 5) (u := .string r.s) h4
  obtain ⟨c6, h6, z6⟩ := set_heap (x := x + 6) (u := .slice r.B r.m r.d) h5
  exact ⟨c6, h6, by omega⟩
set_option maxRecDepth 100000 in
theorem put7o_other {w : World} {g x b : Nat} (r : TR) (hne : g ≠ b) : (put7o w g x r).heap[b]? = w.heap[b]? :=
  (Below.heap_setCell _ ⟨g, _, none⟩ _ b hne.symm).trans ((Below.heap_setCell _ ⟨g, _, none⟩ _ b hne.symm).trans ((Below.heap_setCell _ ⟨g, _, none⟩ _ b hne.symm).trans ((Below.heap_setCell _ ⟨g, _, none⟩ _ b hne.symm).trans ((Below.heap_setCell _ ⟨g, _, none⟩ _ b hne.symm).trans ((Below.heap_setCell _ ⟨g, _, none⟩ _ b hne.symm).trans (Below.heap_setCell _ ⟨g, _, none⟩ _ b hne.symm))))))
set_option maxRecDepth 100000 in
theorem put7o_cell {w : World} {g x y : Nat} (r : TR) {X : Option Value} (h : w.cell? ⟨g, y, none⟩ = X) (hn : y < x ∨ x + 7 ≤ y) : (put7o w g x r).cell? ⟨g, y, none⟩ = X :=
  setOth (setOth (setOth (setOth (setOth (setOth (setOth h (by omega)) (by omega)) (by omega)) (by omega)) (by omega)) (by omega)) (by omega)
set_option maxRecDepth 100000 in
theorem put7o_far {w : World} {g x y : Nat} (r : TR) {r' : TR} (h : At7 w g y r') (hn : y + 7 ≤ x ∨ x + 7 ≤ y) : At7 (put7o w g x r) g y r' where
  c0 := put7o_cell r h.c0 (by omega)
  c1 := put7o_cell r h.c1 (by omega)
  c2 := put7o_cell r h.c2 (by omega)
  c3 := put7o_cell r h.c3 (by omega)
  c4 := put7o_cell r h.c4 (by omega)
  c5 := put7o_cell r h.c5 (by omega)
  c6 := put7o_cell r h.c6 (by omega)
set_option maxRecDepth 100000 in
theorem put7o_be (w : World) (g x : Nat) (r : TR) : Below 0 w (put7o w g x r) :=
  (((((((Below.refl 0 w).setCell (p := ⟨g, x, none⟩) (Nat.zero_le _) _).setCell (p := ⟨g, x + 1, none⟩) (Nat.zero_le _) _).setCell (p := ⟨g, x + 2, none⟩) (Nat.zero_le _) _).setCell (p := ⟨g, x + 3, none⟩) (Nat.zero_le _) _).setCell (p := ⟨g, x + 4, none⟩) (Nat.zero_le _) _).setCell (p := ⟨g, x + 5, none⟩) (Nat.zero_le _) _).setCell (p := ⟨g, x + 6, none⟩) (Nat.zero_le _) _
set_option maxRecDepth 100000 in
/-- A record of a row is written over. -/
theorem Ovr.record {g j : Nat} {cs : Array Value} (hs : S g) (hg : w.heap[g]? = some (.cells cs 28 (0, 0))) (h7 : ∀ k, k < 7 → ∃ v, w.cell? ⟨g, j * 7 + k, none⟩ = some v) : Ovr S w (put7o w g (j * 7) overR) := by
  have hbe := put7o_be w g (j * 7) overR
  have hat := put7o_at overR h7
  have hfar : ∀ i r, i ≠ j → At7 w g (i * 7) r → At7 (put7o w g (j * 7) overR) g (i * 7) r := fun i r hij h => put7o_far overR h (by omega)
  have hoth : ∀ b, g ≠ b → (put7o w g (j * 7) overR).heap[b]? = w.heap[b]? := fun b hne => put7o_other overR hne
  obtain ⟨cs', hh, hz⟩ := put7o_heap (x := j * 7) overR hg
  generalize put7o w g (j * 7) overR = w' at *
  refine ⟨hbe.os, hbe.tape, hbe.output, hbe.size, fun b hb hn => hoth b (fun e => by subst e; exact hn hs), fun b c _ e => ?_, fun b c _ e => ?_⟩
  · have hne : g ≠ b := fun x => by
      subst x
      rw [hg] at e
      injection e with e1
      injection e1 with _ e1
      exact absurd e1 (by decide)
    exact ⟨c, (hoth b hne).trans e, rfl⟩
  · by_cases hne : g = b
    · subst hne
      rw [hg] at e
      injection e with e1
      injection e1 with e1
      subst e1
      refine ⟨cs', hh, hz, fun i r h => ?_⟩
      by_cases hij : i = j
      · subst hij
        exact .inr hat
      · exact .inl (hfar i r hij h)
    · exact ⟨c, (hoth b hne).trans e, rfl, fun _ _ h => .inl (h.keep (hoth b hne))⟩
end

/-- A record whose limbs and parts lie in rows that are made, down to the leaves. -/
inductive Sfe (S : Nat → Prop) (w : World) : TR → Prop
  | mk (r : TR) (V : Nat → TR) (hn : r.ln ≤ 1000) (hm : r.m ≤ 100000)
    (hl : (r.ln = 0 ∧ r.A = none ∧ r.lc = 0) ∨ ∃ g cs, S g ∧ r.A = some ⟨g, 0, none⟩ ∧ Rw w g r.lc cs ∧ r.ln ≤ r.lc ∧ r.lc ≤ maxLen)
    (hb : 0 < r.m → ∃ g cs, S g ∧ r.B = some ⟨g, 0, none⟩ ∧ w.heap[g]? = some (.cells cs 28 (0, 0)) ∧ ∀ i, i < r.m → At7 w g (i * 7) (V i))
    (hk : ∀ i, i < r.m → Sfe S w (V i)) : Sfe S w r
section
variable {S S' : Nat → Prop} {w w' : World} {r : TR}
set_option maxRecDepth 100000 in
theorem Sfe.leaf {r : TR} (h1 : r.ln = 0) (h2 : r.A = none) (h3 : r.lc = 0) (h4 : r.m = 0) : Sfe S w r :=
  .mk r (fun _ => default) (by omega) (by omega) (.inl ⟨h1, h2, h3⟩) (fun h => by omega) (fun i h => by omega)
set_option maxRecDepth 100000 in
theorem Sfe.over : Sfe S w overR := Sfe.leaf rfl rfl rfl rfl
set_option maxRecDepth 100000 in
theorem Sfe.ovr (h : Sfe S w r) (k : Ovr S w w') : Sfe S w' r := by
  induction h with
  | mk r V hn hm hl hb hk ih =>
    by_cases h0 : 0 < r.m
    · obtain ⟨g, cs, hs, hB, hg, h7⟩ := hb h0
      obtain ⟨cs', hg', hz, hp⟩ := k.row g cs hs hg
      classical
      refine .mk r (fun i => if At7 w' g (i * 7) (V i) then V i else overR) hn hm ?_ (fun _ => ⟨g, cs', hs, hB, hg', fun i hi => ?_⟩) (fun i hi => ?_)
      · rcases hl with hl | ⟨ga, ca, hsa, hA, hr, h1, h2⟩
        · exact .inl hl
        · obtain ⟨c2, e2, z2⟩ := k.lim ga ca hsa hr.1
          exact .inr ⟨ga, c2, hsa, hA, ⟨e2, z2.trans hr.2⟩, h1, h2⟩
      · by_cases e : At7 w' g (i * 7) (V i)
        · simp only [e, if_true]
        · simp only [e, if_false]
          exact (hp i _ (h7 i hi)).resolve_left e
      · by_cases e : At7 w' g (i * 7) (V i)
        · simp only [e, if_true]
          exact ih i hi
        · simp only [e, if_false]
          exact Sfe.over
    · refine .mk r V hn hm ?_ (fun h => absurd h h0) (fun i hi => by omega)
      rcases hl with hl | ⟨ga, ca, hsa, hA, hr, h1, h2⟩
      · exact .inl hl
      · obtain ⟨c2, e2, z2⟩ := k.lim ga ca hsa hr.1
        exact .inr ⟨ga, c2, hsa, hA, ⟨e2, z2.trans hr.2⟩, h1, h2⟩
set_option maxRecDepth 100000 in
theorem Sfe.keep (h : Sfe S w r) (k : Keeps S w w') : Sfe S w' r := by
  induction h with
  | mk r V hn hm hl hb hk ih =>
    refine .mk r V hn hm ?_ (fun h0 => ?_) ih
    · rcases hl with hl | ⟨ga, ca, hsa, hA, hr, h1, h2⟩
      · exact .inl hl
      · exact .inr ⟨ga, ca, hsa, hA, ⟨(k.block ga hsa hr.lt).trans hr.1, hr.2⟩, h1, h2⟩
    · obtain ⟨g, cs, hs, hB, hg, h7⟩ := hb h0
      have e := k.block g hs (Array.getElem?_eq_some_iff.1 hg).1
      exact ⟨g, cs, hs, hB, e.trans hg, fun i hi => (h7 i hi).keep e⟩
set_option maxRecDepth 100000 in
theorem Sfe.bel (h : Sfe S w r) (hb : Below w.heap.size w w') : Sfe S w' r := h.keep (hb.keeps _)
set_option maxRecDepth 100000 in
theorem Sfe.mono (h : Sfe S w r) (hS : ∀ b, b < w.heap.size → S b → S' b) : Sfe S' w r := by
  induction h with
  | mk r V hn hm hl hb hk ih =>
    refine .mk r V hn hm ?_ (fun h0 => ?_) ih
    · rcases hl with hl | ⟨ga, ca, hsa, hA, hr, h1, h2⟩
      · exact .inl hl
      · exact .inr ⟨ga, ca, hS _ hr.lt hsa, hA, hr, h1, h2⟩
    · obtain ⟨g, cs, hs, hB, hg, h7⟩ := hb h0
      exact ⟨g, cs, hS _ (Array.getElem?_eq_some_iff.1 hg).1 hs, hB, hg, h7⟩
end

set_option maxRecDepth 100000 in
/-- One limb is put behind a row: the row stays a row. -/
theorem append_rw2 (w : World) (g n N : Nat) (cs : Array Value) (hr : Rw w g N cs) (hn : n ≤ N) (hN : N ≤ maxLen) (hn' : n ≤ 1000) (ty : TypeId) :
    ∃ v' w' cs', (Builtin.append_ #[22, 22] ty #[.slice (some ⟨g, 0, none⟩) n N, .slice (some ⟨w.heap.size, 0, none⟩) 1 1]).run Try.prog (w.alloc (.cells #[.int .u32 61166] 60)) = .ok v' w' ∧ w.grownBy w' (some g) ∧ Rw w' g N cs' := by
  obtain ⟨i, hi, hz, hs, hb⟩ := info_limb'
  have ha := World.grownBy_alloc w (.cells #[.int .u32 61166] 60) (some g)
  have hr' : Rw (w.alloc (.cells #[.int .u32 61166] 60)) g N cs := ⟨(Below.heap_alloc w _ g hr.lt).trans hr.1, hr.2⟩
  have hown : (w.alloc (.cells #[.int .u32 61166] 60)).ownsRow g 60 1 (.slice (some ⟨g, 0, none⟩) n N) n (cs.toList.take n) := ⟨by rw [List.length_take, Array.length_toList, hr.2]; omega, .inr ⟨g, N, cs, rfl, Nat.le_refl _, hr'.1, hn, hN, by rw [hr.2]; omega, by rw [Nat.mul_one]⟩⟩
  have hnew : ∀ j u, ([.int .u32 61166] : List Value)[j]? = some u → (w.alloc (.cells #[.int .u32 61166] 60)).cell? ((⟨w.heap.size, 0, none⟩ : Addr).add j) = some u := by
    intro j u hu
    rcases j with _ | j
    · simp at hu
      subst hu
      show (w.alloc _).cell? ⟨w.heap.size, 0, none⟩ = _
      rw [World.cell?_alloc_at _ _ _ _ rfl]
      rfl
    · simp at hu
  by_cases hroom : n + 1 ≤ N
  · obtain ⟨w', hrun, ho, hg⟩ := run_append_fits (P := Try.prog) (w.alloc (.cells #[.int .u32 61166] 60)) g 22 ty 60 i 1 und_limbs hi hs g n N (cs.toList.take n) hown ⟨w.heap.size, 0, none⟩ 1 1 [.int .u32 61166] rfl hnew (by intro u hu; simp at hu; subst hu; rfl) hroom
    rcases ho.2 with ⟨h0, _⟩ | ⟨g', cap, cur, hv, _, hg', _, _, hz', _⟩
    · cases h0
    · cases hv
      exact ⟨_, w', cur, hrun, grown_tr ha hg, hg', by rw [hz', Nat.mul_one]⟩
  · obtain ⟨v', w', hrun, _, hg⟩ := run_append_arg_grows (P := Try.prog) (w.alloc (.cells #[.int .u32 61166] 60)) 22 ty 60 i (.int .u32 0) 1 4 und_limbs hi hz hs hb rfl (by decide) ⟨g, 0, none⟩ n N (cs.toList.take n) hown.1 (fun j u hu => by
        have hj : j < n := by
          have := (List.getElem?_eq_some_iff.1 hu).1
          rw [List.length_take] at this
          omega
        rw [List.getElem?_take_of_lt hj] at hu
        rw [add_none, Nat.zero_add, hr'.cell, ← Array.getElem?_toList]
        exact hu) ⟨w.heap.size, 0, none⟩ 1 1 [.int .u32 61166] rfl hnew (by omega) (by unfold maxLen; omega) (by omega)
    have hg2 : (w.alloc (.cells #[.int .u32 61166] 60)).grownBy w' (some g) := ⟨hg.os, hg.tape, hg.output, hg.size, fun k hk _ => hg.block k hk (by simp)⟩
    exact ⟨v', w', cs, hrun, grown_tr ha hg2, (hg.block g hr'.lt (by simp)).trans hr'.1, hr.2⟩

set_option maxRecDepth 100000 in
set_option maxHeartbeats 1000000 in
theorem overL_some (w : World) (g n c : Nat) (cs0 : Array Value) (h : Rw w g c cs0) (hnc : n ≤ c) (hc : c ≤ maxLen) (hn : n ≤ 1000) :
    Calls Try.prog 24 #[.slice (some ⟨g, 0, none⟩) n c] w fun e w' => e = .returned (.tuple #[]) ∧ w.grownBy w' (some g) ∧ ∃ cs, Rw w' g c cs := by
  go_enter Try.func24, Try.ntmps24
  go_wp2
  go_loopw [2] (fun i w' => ∃ (j : Nat) (cs : Array Value), j ≤ n ∧ i = .int .i64 (j : Int) ∧ Rw w' g c cs ∧ w.grownBy w' (some g)) (fun i _ => n - (intOf i).toNat)
  case atStart => exact ⟨0, cs0, by omega, rfl, h, World.grownBy.refl _ _⟩
  case round =>
    obtain ⟨j, cs, hj, rfl, hRw, hgr⟩ := hrel
    by_cases h3 : j < n
    · obtain ⟨u, hu⟩ := hRw.some (i := j) (by omega)
      have hf := hRw.fz j
      go_wp2
      exact ⟨⟨j + 1, _, by omega, by go_num, hRw.set j _, grown_set hgr⟩, by simp [intOf]; omega⟩
    · obtain ⟨v', w1, c1, hrun, hg1, hr1⟩ := append_rw2 wr g n c cs hRw hnc hc hn 22
      have hR := Lib.hid hrun
      clear hrun
      go_wp2_with (at_builtin; refine wpList_append_run rfl _ _ _ rfl _ _ _ rfl rfl hR.out ?_)
      go_end0
      exact ⟨rfl, grown_tr hgr hg1, c1, hr1⟩
set_option maxRecDepth 100000 in
theorem overL_any {S : Nat → Prop} (w : World) (r : TR) (hn : r.ln ≤ 1000) (hl : (r.ln = 0 ∧ r.A = none ∧ r.lc = 0) ∨ ∃ g cs, S g ∧ r.A = some ⟨g, 0, none⟩ ∧ Rw w g r.lc cs ∧ r.ln ≤ r.lc ∧ r.lc ≤ maxLen) :
    Calls Try.prog 24 #[.slice r.A r.ln r.lc] w fun e w' => e = .returned (.tuple #[]) ∧ Ovr S w w' := by
  rcases hl with ⟨h1, h2, h3⟩ | ⟨g, cs, hs, hA, hr, h1, h2⟩
  · rw [h1, h2, h3]
    refine (over_none w 0 rfl).mono ?_
    rintro e w' ⟨he, hg⟩
    exact ⟨he, Ovr.of_below ((Below.refl _ _).grown hg (Nat.le_refl _) (by simp))⟩
  · rw [hA]
    refine (overL_some w g r.ln r.lc cs hr h1 h2 hn).mono ?_
    rintro e w' ⟨he, hg, cs', hr'⟩
    exact ⟨he, Ovr.limbs hg hs hr hr'⟩
end Go.Proofs.Ytmcfokeibecopaa

namespace Go.Proofs.Ytmcfokeibecopaa
open Go.RowKit

set_option maxRecDepth 100000 in
theorem Box7.ovr {S : Nat → Prop} {w w' : World} {g : Nat} {r : TR} (h : Box7 w g r) (k : Ovr S w w') (hs : ¬ S g) : Box7 w' g r := (k.rest g (Array.getElem?_eq_some_iff.1 h).1 hs).trans h

/-- OverTerm of this record does its work, from this world on. -/
def OvP (S : Nat → Prop) (w0 : World) (top : Nat) (r : TR) : Prop :=
  ∀ W, Ovr S w0 W → top ≤ W.heap.size → Calls Try.prog 14 #[.agg #[.int .i64 r.k, .int .i64 r.n, .bool r.g, .slice r.A r.ln r.lc, .int .u64 r.u, .string r.s, .slice r.B r.m r.d]] W fun e W' => e = .returned (.tuple #[]) ∧ Ovr S W W'

set_option maxRecDepth 100000 in
set_option maxRecDepth 100000 in
set_option maxHeartbeats 4000000 in
theorem overSfe_step {S : Nat → Prop} {w0 : World} {top : Nat} (hS : ∀ b, S b → b < top) (r : TR) (V : Nat → TR) (hn : r.ln ≤ 1000) (hm : r.m ≤ 100000)
    (hl : (r.ln = 0 ∧ r.A = none ∧ r.lc = 0) ∨ ∃ g cs, S g ∧ r.A = some ⟨g, 0, none⟩ ∧ Rw w0 g r.lc cs ∧ r.ln ≤ r.lc ∧ r.lc ≤ maxLen)
    (hb : 0 < r.m → ∃ g cs, S g ∧ r.B = some ⟨g, 0, none⟩ ∧ w0.heap[g]? = some (.cells cs 28 (0, 0)) ∧ ∀ i, i < r.m → At7 w0 g (i * 7) (V i))
    (ih : ∀ i, i < r.m → OvP S w0 top (V i)) (hov : 0 < r.m → OvP S w0 top overR) : OvP S w0 top r := by
  intro W hk hW
  have k1 := hk.alloc (.cells #[.int .i64 r.k, .int .i64 r.n, .bool r.g, .slice r.A r.ln r.lc, .int .u64 r.u, .string r.s, .slice r.B r.m r.d] 28)
  have hK : ¬ S W.heap.size := fun h => by have := hS _ h; omega
  have bx := Box7.new W r
  have o0 : Ovr S W (W.alloc (.cells #[.int .i64 r.k, .int .i64 r.n, .bool r.g, .slice r.A r.ln r.lc, .int .u64 r.u, .string r.s, .slice r.B r.m r.d] 28)) := (Ovr.refl S W).alloc _
  have hlW : Hid ((r.ln = 0 ∧ r.A = none ∧ r.lc = 0) ∨ ∃ g cs, S g ∧ r.A = some ⟨g, 0, none⟩ ∧ Rw (W.alloc (.cells #[.int .i64 r.k, .int .i64 r.n, .bool r.g, .slice r.A r.ln r.lc, .int .u64 r.u, .string r.s, .slice r.B r.m r.d] 28)) g r.lc cs ∧ r.ln ≤ r.lc ∧ r.lc ≤ maxLen) := Lib.hid (by
    rcases hl with hl | ⟨ga, ca, hsa, hA, hr, h1, h2⟩
    · exact .inl hl
    · obtain ⟨c2, e2, z2⟩ := k1.lim ga ca hsa hr.1
      exact .inr ⟨ga, c2, hsa, hA, ⟨e2, z2.trans hr.2⟩, h1, h2⟩)
  have hsz : (W.alloc (.cells #[.int .i64 r.k, .int .i64 r.n, .bool r.g, .slice r.A r.ln r.lc, .int .u64 r.u, .string r.s, .slice r.B r.m r.d] 28)).heap.size = W.heap.size + 1 := by simp
  have IH := Lib.hid ih
  have HB := Lib.hid hb
  have HOV := Lib.hid hov
  have HK := Lib.hid hk
  have c3 := bx.at.c3
  have hm' : (r.m : Int) ≤ 100000 := by omega
  clear hl hb ih hov k1
  go_enter Try.func14, Try.ntmps14
  go_wp2_with fail
  refine (overL_any _ r hn hlW.out).mono ?_
  rintro e w2 ⟨rfl, ho⟩
  have bx2 := bx.ovr ho hK
  have o2 := o0.trans ho
  obtain ⟨K, hKe⟩ : ∃ K, K = W.heap.size := ⟨_, rfl⟩
  rw [← hKe] at bx2 hK ⊢
  have hWK := Lib.hid (show top ≤ K by omega)
  clear bx o0 ho hlW hsz c3 hk hKe
  go_wp2_with fail
  go_loopw [2] (fun i w' => ∃ j : Nat, j ≤ r.m ∧ i = .int .i64 (j : Int) ∧ Ovr S W w' ∧ Box7 w' K r) (fun i _ => r.m - (intOf i).toNat)
  case atStart => exact ⟨0, Nat.zero_le _, rfl, o2, bx2⟩
  case round =>
    clear o2 bx2
    obtain ⟨j, hj, rfl, o, bx⟩ := hrel
    have c6 := bx.at.c6
    by_cases hjm : j < r.m
    · have hd1 : decide ((j : Int) < (r.m : Int)) = true := decide_eq_true (by omega)
      obtain ⟨g, cs0, hsg, hB, hg0, h70⟩ := HB.out (by omega)
      have k := HK.out.trans o
      obtain ⟨cs, hg, hz, hp⟩ := k.row g cs0 hsg hg0
      obtain ⟨r', h7, hcall⟩ : ∃ r', At7 wr g (j * 7) r' ∧ OvP S w0 top r' := by
        rcases hp j _ (h70 j hjm) with a | a
        · exact ⟨_, a, IH.out j hjm⟩
        · exact ⟨_, a, HOV.out (by omega)⟩
      rw [hB] at c6
      have y0 := h7.c0; have y1 := h7.c1; have y2 := h7.c2; have y3 := h7.c3; have y4 := h7.c4; have y5 := h7.c5; have y6 := h7.c6
      have hcs : top ≤ wr.heap.size := Nat.le_trans hW o.size
      have HC := Lib.hid (hcall wr k hcs)
      have H7 := Lib.hid h7
      clear h7 hcall
      go_wp2_with fail
      refine (HC.out).mono ?_
      rintro e v ⟨rfl, hv⟩
      have bx2 := bx.ovr hv hK
      have k2 := k.trans hv
      obtain ⟨cs2, hg2, _, _⟩ := hv.row g cs hsg hg
      have q : ∀ x, x < 7 → ∃ u, v.cell? ⟨g, j * 7 + x, none⟩ = some u := by
        obtain ⟨_, _, _, hp2⟩ := hv.row g cs hsg hg
        have h7' : ∃ r2, At7 v g (j * 7) r2 := (hp2 j _ H7.out).elim (fun a => ⟨_, a⟩) (fun a => ⟨_, a⟩)
        obtain ⟨r2, a⟩ := h7'
        intro x hx
        have hx' : x = 0 ∨ x = 1 ∨ x = 2 ∨ x = 3 ∨ x = 4 ∨ x = 5 ∨ x = 6 := by omega
        rcases hx' with rfl | rfl | rfl | rfl | rfl | rfl | rfl
        · exact ⟨_, a.c0⟩
        · exact ⟨_, a.c1⟩
        · exact ⟨_, a.c2⟩
        · exact ⟨_, a.c3⟩
        · exact ⟨_, a.c4⟩
        · exact ⟨_, a.c5⟩
        · exact ⟨_, a.c6⟩
      have o3 := Lib.hid (Ovr.record (S := S) hsg hg2 q)
      have bx3 := Lib.hid (bx2.ovr o3.out hK)
      have o4 := Lib.hid ((o.trans hv).trans o3.out)
      have fz : ∀ x, v.frozen? ⟨g, x, none⟩ = false := fun x => by simp [World.frozen?, hg2]
      have f0 := fz (j * 7)
      have f1 := fz (j * 7 + 1)
      have f2 := fz (j * 7 + 2)
      have f3 := fz (j * 7 + 3)
      have f4 := fz (j * 7 + 4)
      have f5 := fz (j * 7 + 5)
      have f6 := fz (j * 7 + 6)
      obtain ⟨v0, q0⟩ := q 0 (by omega)
      obtain ⟨v1, q1⟩ := q 1 (by omega)
      obtain ⟨v2, q2⟩ := q 2 (by omega)
      obtain ⟨v3, q3⟩ := q 3 (by omega)
      obtain ⟨v4, q4⟩ := q 4 (by omega)
      obtain ⟨v5, q5⟩ := q 5 (by omega)
      obtain ⟨v6, q6⟩ := q 6 (by omega)
      rw [Nat.add_zero] at q0
      clear c6 y0 y1 y2 y3 y4 y5 y6 fz q
      have c6 := bx2.at.c6
      rw [hB] at c6
      clear o k hg0 h70 hp HC H7 hg hz bx hv bx2 k2 hg2 hB
      go_wp2_with fail
      exact ⟨⟨j + 1, by omega, by go_num, by exact o4.out, by exact bx3.out⟩, by simp [intOf]; omega⟩
    · have hd1 : decide ((j : Int) < (r.m : Int)) = false := decide_eq_false (by omega)
      have e : j = r.m := by omega
      subst e
      go_wp2_with fail
      go_end0
      exact ⟨rfl, o⟩
set_option maxRecDepth 100000 in
theorem overSfe_over {S : Nat → Prop} {w0 : World} {top : Nat} (hS : ∀ b, S b → b < top) : OvP S w0 top overR :=
  overSfe_step hS overR (fun _ => default) (by simp [overR]) (by simp [overR]) (.inl ⟨rfl, rfl, rfl⟩) (fun h => absurd h (by simp [overR])) (fun i hi => absurd hi (by simp [overR])) (fun h => absurd h (by simp [overR]))
set_option maxRecDepth 100000 in
theorem overSfe_any {S : Nat → Prop} {w0 : World} {top : Nat} (hS : ∀ b, S b → b < top) {r : TR} (h : Sfe S w0 r) : OvP S w0 top r := by
  induction h with
  | mk r V hn hm hl hb hk ih => exact overSfe_step hS r V hn hm hl hb ih (fun _ => overSfe_over hS)
end Go.Proofs.Ytmcfokeibecopaa

namespace Go.Proofs.Ytmcfokeibecopaa
open Go.RowKit

/-- A record that has nothing but parts. -/
def rowR (B : Option Addr) (m d : Nat) : TR := ⟨0, 0, false, none, 0, 0, 0, ⟨#[]⟩, B, m, d⟩
/-- Limbs in a row that was made. -/
def LmR (S : Nat → Prop) (w : World) (A : Option Addr) (n c : Nat) : Prop := (n = 0 ∧ A = none ∧ c = 0) ∨ ∃ g cs, S g ∧ A = some ⟨g, 0, none⟩ ∧ Rw w g c cs ∧ n ≤ c ∧ c ≤ maxLen
set_option maxRecDepth 100000 in
theorem LmR.keep {S : Nat → Prop} {w w' : World} {A : Option Addr} {n c : Nat} (h : LmR S w A n c) (k : Keeps S w w') : LmR S w' A n c := by
  rcases h with h | ⟨g, cs, hs, hA, hr, h1, h2⟩
  · exact .inl h
  · exact .inr ⟨g, cs, hs, hA, ⟨(k.block g hs hr.lt).trans hr.1, hr.2⟩, h1, h2⟩
set_option maxRecDepth 100000 in
theorem LmR.own {S : Nat → Prop} {w : World} {base : Nat} {A : Option Addr} {n c : Nat} {l : List Nat} (h : Own w base A n c l) (hS : ∀ b, base ≤ b → S b) : LmR S w A n c := by
  rcases h.2.2.2 with ⟨hv, h0⟩ | ⟨g, cap, cur, hv, hb, hg, h1, h2, h3, h4⟩
  · injection hv with hA _ hc
    exact .inl ⟨h0, hA, hc⟩
  · injection hv with hA _ hc
    subst hA hc
    exact .inr ⟨g, cur, hS g hb, rfl, ⟨hg, by rw [h3, Nat.mul_one]⟩, h1, h2⟩
set_option maxRecDepth 100000 in
theorem Sfe.copied {S : Nat → Prop} {w : World} {k n' : Int} {g : Bool} {u : Int} {s : ByteArray} {A B : Option Addr} {n c m d : Nat} (hl : LmR S w A n c) (hn : n ≤ 1000) (h : Sfe S w (rowR B m d)) : Sfe S w ⟨k, n', g, A, n, c, u, s, B, m, d⟩ := by
  cases h with
  | mk _ V _ hm _ hb hk => exact .mk _ V hn hm hl hb hk
/-- What a call leaves that copies terms apart. -/
def CpTsO (w : World) (ts : List Tm) (e : Ending) (w' : World) : Prop := ∃ B m d, e = .returned (.slice B m d) ∧ TVSs (fun b => w.heap.size ≤ b) w' B m d ts ∧ Sfe (fun b => w.heap.size ≤ b) w' (rowR B m d) ∧ Below w.heap.size w w'

/-- What stands while terms are copied one by one: the copier at p, the new row at g, so many elements of it done. -/
structure CpJ (w : World) (ts : List Tm) (m g j : Nat) (W : World) : Prop where
  cop : W.heap[w.heap.size]? = some (.cells #[.map none] 54 (0, 0))
  be : Below w.heap.size w W
  pg : w.heap.size < g
  row : ∃ (cs : Array Value) (V : Nat → TR), W.heap[g]? = some (.cells cs 28 (0, 0)) ∧ cs.size = m * 7 ∧ (∀ i, i < j → ∀ k, k < 7 → cs[i * 7 + k]? = (V i).cells[k]?) ∧
    (∀ i t, i < j → ts[i]? = some t → TVS (fun b => w.heap.size < b ∧ b ≠ g) W (V i) t) ∧ ∀ i, i < j → Sfe (fun b => w.heap.size < b ∧ b ≠ g) W (V i)
set_option maxRecDepth 100000 in
theorem CpJ.glt {w : World} {ts : List Tm} {m g j : Nat} {W : World} (h : CpJ w ts m g j W) : g < W.heap.size := by
  obtain ⟨cs, V, h1, _⟩ := h.row
  exact (Array.getElem?_eq_some_iff.1 h1).1
set_option maxRecDepth 100000 in
theorem CpJ.plt {w : World} {ts : List Tm} {m g j : Nat} {W : World} (h : CpJ w ts m g j W) : w.heap.size < W.heap.size := (Array.getElem?_eq_some_iff.1 h.cop).1
set_option maxRecDepth 100000 in
theorem CpJ.below {w : World} {ts : List Tm} {m g j : Nat} {W W' : World} (h : CpJ w ts m g j W) (hb : Below W.heap.size W W') : CpJ w ts m g j W' := by
  obtain ⟨cs, V, h1, h2, h3, h4, h5⟩ := h.row
  exact ⟨(hb.block _ h.plt).trans h.cop, h.be.trans (hb.mono h.be.size), h.pg, cs, V, (hb.block _ h.glt).trans h1, h2, h3, fun i t hi e => (h4 i t hi e).keep (hb.keeps _), fun i hi => (h5 i hi).keep (hb.keeps _)⟩
set_option maxRecDepth 100000 in
/-- A cell of the new row. -/
theorem CpJ.cell {w : World} {ts : List Tm} {m g j : Nat} {W : World} (h : CpJ w ts m g j W) {x : Nat} (hx : x < m * 7) : ∃ v, W.cell? ⟨g, x, none⟩ = some v := by
  obtain ⟨cs, V, h1, h2, _⟩ := h.row
  exact ⟨cs[x]'(by omega), by rw [cell_of_row W g x cs _ (0, 0) h1]; exact Array.getElem?_eq_getElem (by omega)⟩
set_option maxRecDepth 100000 in
theorem CpJ.frozen {w : World} {ts : List Tm} {m g j : Nat} {W : World} (h : CpJ w ts m g j W) (x : Nat) : W.frozen? ⟨g, x, none⟩ = false := by
  obtain ⟨cs, V, h1, _⟩ := h.row
  simp [World.frozen?, h1]
set_option maxRecDepth 100000 in
/-- A cell of the row that is not among those done is written. -/
theorem CpJ.set {w : World} {ts : List Tm} {m g j : Nat} {W : World} (h : CpJ w ts m g j W) {x : Nat} (hx : j * 7 ≤ x) (v : Value) : CpJ w ts m g j (W.setCell ⟨g, x, none⟩ v) := by
  have hpg := h.pg
  obtain ⟨cs, V, h1, h2, h3, h4, h5⟩ := h.row
  refine ⟨(Below.heap_setCell W ⟨g, x, none⟩ v w.heap.size (by simp only; omega)).trans h.cop, h.be.setCell (p := ⟨g, x, none⟩) (by simp only; omega) v, h.pg, cs.setIfInBounds x v, V, ?_, by simp [h2], fun i hi k hk => ?_, fun i t hi e => (h4 i t hi e).keep ((Keeps.refl _ _).setCell (by simp) v), fun i hi => (h5 i hi).keep ((Keeps.refl _ _).setCell (by simp) v)⟩
  · simp [World.setCell, Array.getElem?_modify, h1]
  · rw [Array.getElem?_setIfInBounds_ne (by omega)]
    exact h3 i hi k hk
set_option maxRecDepth 100000 in
/-- One more is done. -/
theorem CpJ.step {w : World} {ts : List Tm} {m g j : Nat} {W : World} (h : CpJ w ts m g j W) {R : TR} {t : Tm} (ht : ts[j]? = some t) (hR : TVS (fun b => w.heap.size < b ∧ b ≠ g) W R t) (hF : Sfe (fun b => w.heap.size < b ∧ b ≠ g) W R) (h7 : At7 W g (j * 7) R) : CpJ w ts m g (j + 1) W := by
  obtain ⟨cs, V, h1, h2, h3, h4, h5⟩ := h.row
  refine ⟨h.cop, h.be, h.pg, cs, fun i => if i < j then V i else R, h1, h2, fun i hi k hk => ?_, fun i x hi e => ?_, fun i hi => ?_⟩
  · by_cases hij : i < j
    · simp only [hij, if_true]; exact h3 i hij k hk
    · have : i = j := by omega
      subst this
      simp only [hij, if_false]
      have hc : ∀ k, W.cell? ⟨g, i * 7 + k, none⟩ = cs[i * 7 + k]? := fun k => cell_of_row W g _ cs _ (0, 0) h1
      rw [← hc]
      have hk' : k = 0 ∨ k = 1 ∨ k = 2 ∨ k = 3 ∨ k = 4 ∨ k = 5 ∨ k = 6 := by omega
      rcases hk' with rfl | rfl | rfl | rfl | rfl | rfl | rfl
      · exact h7.c0
      · exact h7.c1
      · exact h7.c2
      · exact h7.c3
      · exact h7.c4
      · exact h7.c5
      · exact h7.c6
  · by_cases hij : i < j
    · simp only [hij, if_true]; exact h4 i x hij e
    · have : i = j := by omega
      subst this
      simp only [hij, if_false]
      rw [ht] at e
      cases e
      exact hR
  · by_cases hij : i < j
    · simp only [hij, if_true]; exact h5 i hij
    · simp only [hij, if_false]
      exact hF
set_option maxRecDepth 100000 in
/-- All are done. -/
theorem CpJ.all {w : World} {ts : List Tm} {m g : Nat} {W : World} (h : CpJ w ts m g m W) (hl : ts.length = m) (hm : m ≤ 100000) : TVSs (fun b => w.heap.size ≤ b) W (some ⟨g, 0, none⟩) m m ts ∧ Sfe (fun b => w.heap.size ≤ b) W (rowR (some ⟨g, 0, none⟩) m m) := by
  obtain ⟨cs, V, h1, h2, h3, h4, h5⟩ := h.row
  have hpg := h.pg
  have h7 : ∀ i, i < m → At7 W g (i * 7) (V i) := fun i hi => At7.of fun k hk => by
    rw [add_none, cell_of_row W g _ cs _ (0, 0) h1]
    exact h3 i hi k hk
  refine ⟨⟨hl, Nat.le_refl _, by unfold maxLen; omega, fun _ a e => by cases e; simp only; omega, V, fun _ => ⟨g, 0, rfl, h.glt, fun i hi => ?_⟩, fun i t e => ?_⟩, ?_⟩
  · rw [Nat.zero_add]
    exact h7 i hi
  · have hi : i < m := by rw [← hl]; exact (List.getElem?_eq_some_iff.1 e).1
    exact (h4 i t hi e).mono fun b hb => by omega
  · exact .mk _ V (by simp [rowR]) hm (.inl ⟨rfl, rfl, rfl⟩) (fun _ => ⟨g, cs, by omega, rfl, h1, h7⟩) (fun i hi => (h5 i hi).mono (fun b _ hb => by omega))
set_option maxRecDepth 100000 in
theorem CpJ.put {w : World} {ts : List Tm} {m g j : Nat} {W : World} (h : CpJ w ts m g j W) (r : TR) : CpJ w ts m g j (put7o W g (j * 7) r) :=
  ((((((h.set (x := j * 7) (by omega) _).set (x := j * 7 + 1) (by omega) _).set (x := j * 7 + 2) (by omega) _).set (x := j * 7 + 3) (by omega) _).set (x := j * 7 + 4) (by omega) _).set (x := j * 7 + 5) (by omega) _).set (x := j * 7 + 6) (by omega) _
set_option maxRecDepth 100000 in
set_option maxRecDepth 100000 in
set_option maxHeartbeats 8000000 in
theorem termsO_of (ts : List Tm) (ih : ∀ t ∈ ts, ∀ (w : World) (B : Option Addr) (m d : Nat), TVs w B m d t.args → Calls Try.prog 31 #[.agg #[.map none], .slice B m d] w (CpTsO w t.args))
    (hok : ∀ t ∈ ts, t.Ok) (w : World) (B : Option Addr) (m d : Nat) (hts : TVs w B m d ts) (hm : m ≤ 100000) :
    Calls Try.prog 31 #[.agg #[.map none], .slice B m d] w (CpTsO w ts) := by
  have IH := Lib.hid ih
  clear ih
  have hlen := hts.len
  by_cases h0 : m = 0
  · subst h0
    have e : ts = [] := List.eq_nil_of_length_eq_zero hlen
    subst e
    go_enter Try.func31, Try.ntmps31
    go_wp2
    go_ret
    exact ⟨none, 0, 0, rfl, TVSs.nil _ _ _ _ (Nat.zero_le _), Sfe.leaf rfl rfl rfl rfl, (Below.refl _ _).alloc (Nat.le_refl _) _⟩
  · obtain ⟨b0, o0, hB⟩ : ∃ b0 o0, B = some ⟨b0, o0, none⟩ := by
      obtain ⟨V, h1, _⟩ := hts.el
      obtain ⟨b, o, e, _⟩ := h1 (by omega)
      exact ⟨b, o, e⟩
    subst hB
    have e0 : ((m : Int) == 0) = false := by rw [beq_eq_false_iff_ne]; omega
    have hpos : (0 : Int) < (m : Int) := by omega
    have hlk := look_none
    have hnq := neq_nilmade
    have hmk := make_terms m hm
    go_enter Try.func31, Try.ntmps31
    have hb0 : b0 < w.heap.size := by
      obtain ⟨V, h1, _⟩ := hts.el
      obtain ⟨b, o, e, hlt, _⟩ := h1 (by omega)
      cases e
      exact hlt
    have J0 : CpJ w ts m (w.heap.size + 1 + 1) 0 (((w.alloc (.cells #[.map none] 54)).alloc (.cells #[.pointer (some ⟨b0, o0, none⟩), .int .i64 (m : Int)] 72)).alloc (.cells (madeCells (Value.cells (.agg #[.int .i64 zeroR.k, .int .i64 zeroR.n, .bool zeroR.g, .slice zeroR.A zeroR.ln zeroR.lc, .int .u64 zeroR.u, .string zeroR.s, .slice zeroR.B zeroR.m zeroR.d])) (m * 7)) 28)) := by
      refine ⟨?_, (((Below.refl _ _).alloc (Nat.le_refl _) _).alloc (by simp) _).alloc (by simp; omega) _, by omega, madeCells (Value.cells (.agg #[.int .i64 zeroR.k, .int .i64 zeroR.n, .bool zeroR.g, .slice zeroR.A zeroR.ln zeroR.lc, .int .u64 zeroR.u, .string zeroR.s, .slice zeroR.B zeroR.m zeroR.d])) (m * 7), fun _ => default, ?_, size_madeCells _ _, fun i hi => absurd hi (by omega), fun i t hi => absurd hi (by omega), fun i hi => absurd hi (by omega)⟩
      · rw [Below.heap_alloc _ _ _ (by simp; omega), Below.heap_alloc _ _ _ (by simp)]
        exact heap_alloc_new w _
      · have := heap_alloc_new ((w.alloc (.cells #[.map none] 54)).alloc (.cells #[.pointer (some ⟨b0, o0, none⟩), .int .i64 (m : Int)] 72)) (.cells (madeCells (Value.cells (.agg #[.int .i64 zeroR.k, .int .i64 zeroR.n, .bool zeroR.g, .slice zeroR.A zeroR.ln zeroR.lc, .int .u64 zeroR.u, .string zeroR.s, .slice zeroR.B zeroR.m zeroR.d])) (m * 7)) 28)
        simpa using this
    go_wp2_with fail
    obtain ⟨g, hg⟩ : ∃ g, g = w.heap.size + 1 + 1 := ⟨_, rfl⟩
    rw [← hg] at J0 ⊢
    clear hg hlk hnq hmk
    go_loopw [39] (fun i w' => ∃ j : Nat, j ≤ m ∧ i = .int .i64 (j : Int) ∧ CpJ w ts m g j w') (fun i _ => m - (intOf i).toNat)
    case atStart => exact ⟨0, Nat.zero_le _, rfl, J0⟩
    case round =>
      clear J0
      obtain ⟨j, hj, rfl, J⟩ := hrel
      by_cases hjm : j < m
      · have hd1 : decide ((j : Int) < (m : Int)) = true := by rw [decide_eq_true_iff]; omega
        obtain ⟨b', o', r', t', e, hlt, h7w, het, htvw⟩ := hts.get j hjm
        cases e
        have h7 := h7w.below J.be hlt
        have hpg := J.pg
        have hne : b0 ≠ g := by omega
        have hmem := List.mem_of_getElem? het
        have y0 := h7.c0; have y1 := h7.c1; have y2 := h7.c2; have y3 := h7.c3; have y4 := h7.c4; have y5 := h7.c5; have y6 := h7.c6
        obtain ⟨v0, q0⟩ := J.cell (x := j * 7) (by omega)
        obtain ⟨v1, q1⟩ := J.cell (x := j * 7 + 1) (by omega)
        obtain ⟨v2, q2⟩ := J.cell (x := j * 7 + 2) (by omega)
        obtain ⟨v3, q3⟩ := J.cell (x := j * 7 + 3) (by omega)
        obtain ⟨v4, q4⟩ := J.cell (x := j * 7 + 4) (by omega)
        obtain ⟨v5, q5⟩ := J.cell (x := j * 7 + 5) (by omega)
        obtain ⟨v6, q6⟩ := J.cell (x := j * 7 + 6) (by omega)
        have f0 := J.frozen (j * 7)
        have f1 := J.frozen (j * 7 + 1)
        have f2 := J.frozen (j * 7 + 2)
        have f3 := J.frozen (j * 7 + 3)
        have f4 := J.frozen (j * 7 + 4)
        have f5 := J.frozen (j * 7 + 5)
        have f6 := J.frozen (j * 7 + 6)
        have HJ := Lib.hid J
        clear J
        go_upto_region 14 with fail
        have J1 := HJ.out.put r'
        have G1 := put7o_at r' (fun k hk => HJ.out.cell (x := j * 7 + k) (by omega))
        change Code.wp _ _ _ _ (put7o wr g (j * 7) r')
        clear v0 v1 v2 v3 v4 v5 v6 q0 q1 q2 q3 q4 q5 q6 f0 f1 f2 f3 f4 f5 f6 y0 y1 y2 y3 y4 y5 y6 h7 HJ
        generalize put7o wr g (j * 7) r' = W1 at *
        have hln := Ok.limbs htvw (hok t' hmem)
        have tv1 := htvw.bel J1.be
        have h7 := h7w.below J1.be hlt
        obtain ⟨A', c', W2, hrun, hO, hB⟩ := append_lim W1 W1.heap.size none 0 0 [] (Own.nil _ _) r'.A r'.ln r'.lc t'.mag tv1.flat.lim (by omega) (Nat.le_refl _) 22
        rw [Nat.zero_add, List.nil_append] at hO
        rw [Nat.zero_add] at hrun
        have HR := Lib.hid hrun
        clear hrun
        have J2 := J1.below hB
        have G2 := G1.below hB J1.glt
        have y3 := h7.c3
        have q3 := G2.c3
        have f3 := J2.frozen (j * 7 + 3)
        have hgl := J1.glt
        have HJ := Lib.hid J2
        have HG := Lib.hid G2
        clear J1 G1 J2 G2
        go_upto_region 15 with (at_builtin; refine wpList_append_run rfl _ _ _ rfl _ _ _ rfl rfl HR.out ?_)
        change Code.wp _ _ _ _ (W2.setCell ⟨g, j * 7 + 3, none⟩ (.slice A' r'.ln c'))
        have J3 := HJ.out.set (x := j * 7 + 3) (by omega) (.slice A' r'.ln c')
        have G3 := HG.out.set3 A' r'.ln c'
        have hbk : 0 < r'.ln → ∀ a, A' = some a → w.heap.size < a.block ∧ a.block ≠ g := fun _ a e => by
          subst e
          have := (World.ownsRow.lt hO.2.2 a.block rfl).1
          exact ⟨by omega, by omega⟩
        have L3 := hO.lim.keep (S := fun b => w.heap.size < b ∧ b ≠ g) (w' := W2.setCell ⟨g, j * 7 + 3, none⟩ (.slice A' r'.ln c')) hbk ((Keeps.refl _ _).setCell (by simp) _)
        have M3 := (LmR.own (S := fun b => w.heap.size < b ∧ b ≠ g) hO (fun b hb => ⟨by omega, by omega⟩)).keep (w' := W2.setCell ⟨g, j * 7 + 3, none⟩ (.slice A' r'.ln c')) ((Keeps.refl _ _).setCell (by simp) _)
        have hcap := hO.cap.2
        have hsz3 : (W2.setCell ⟨g, j * 7 + 3, none⟩ (.slice A' r'.ln c')).heap.size = W2.heap.size := by simp [World.setCell]
        have hB2 := hB.size
        have F := htvw.flat
        clear HJ HG y3 q3 f3 hO HR h7 tv1 hB
        generalize W2.setCell ⟨g, j * 7 + 3, none⟩ (.slice A' r'.ln c') = W3 at *
        have hdr := (Below.refl W3.heap.size W3).drew
        have J3d := J3.below hdr
        have G3d := G3.below hdr J3.glt
        have L3d := L3.below hdr
        have M3d := M3.keep (hdr.keeps _)
        have tvd := htvw.bel J3d.be
        have h7d := h7w.below J3d.be hlt
        have p0 : W3.drew.cell? ⟨w.heap.size, 0, none⟩ = some (.map none) := by rw [cell_of_row _ _ 0 _ _ (0, 0) J3d.cop]; rfl
        have y6 := h7d.c6
        have HJ := Lib.hid J3d
        have HG := Lib.hid G3d
        have HL := Lib.hid L3d
        have HM := Lib.hid M3d
        have HT := Lib.hid tvd
        have IA := Lib.hid (IH.out t' hmem)
        have hglt : g < W3.drew.heap.size := J3d.glt
        clear J3 J3d G3 G3d L3 L3d M3 M3d tvd h7d hdr
        go_region_with (first
          | (go_at_call 31; refine (IA.out W3.drew r'.B r'.m r'.d (by exact HT.out.args)).mono ?_; rintro e v ⟨B', m', d', rfl, hT, hR, hv⟩; have M4 := Lib.hid (HM.out.keep (hv.keeps _)); have J4 := Lib.hid (HJ.out.below hv); have G4 := Lib.hid (HG.out.below hv hglt); have L4 := Lib.hid (HL.out.below hv); have q6 := G4.out.c6; have f6 := J4.out.frozen (j * 7 + 6); clear p0 y6))
        all_goals
          go_wp2_with fail
          have hT' := hT.mono (S' := fun b => w.heap.size < b ∧ b ≠ g) (fun b h => ⟨by omega, by omega⟩)
          have kp := (Keeps.refl (fun b => w.heap.size < b ∧ b ≠ g) v).setCell (p := ⟨g, j * 7 + 6, none⟩) (by simp) (.slice B' m' d')
          have T5 := TVS.copied htvw (L4.out.keep hbk kp) hcap hbk (hT'.keep kp)
          have F5 := Sfe.copied (k := r'.k) (n' := r'.n) (g := r'.g) (u := r'.u) (s := r'.s) (M4.out.keep kp) (by omega) ((hR.mono (S' := fun b => w.heap.size < b ∧ b ≠ g) (fun b _ h => ⟨by omega, by omega⟩)).keep kp)
          have J5 := (J4.out.set (x := j * 7 + 6) (by omega) (.slice B' m' d')).step het T5 F5 (G4.out.set6 B' m' d')
          exact ⟨⟨j + 1, by omega, by go_num, J5⟩, by simp [intOf]; omega⟩
      · have hd1 : decide ((j : Int) < (m : Int)) = false := by rw [decide_eq_false_iff_not]; omega
        have e : j = m := by omega
        subst e
        go_wp2
        go_ret
        exact ⟨_, _, _, rfl, (J.all hlen hm).1, (J.all hlen hm).2, J.be⟩

set_option maxRecDepth 100000 in
theorem termsO_args (t : Tm) : t.Ok → t.size ≤ 100000 → ∀ (w : World) (B : Option Addr) (m d : Nat), TVs w B m d t.args → Calls Try.prog 31 #[.agg #[.map none], .slice B m d] w (CpTsO w t.args) := by
  induction t using Tm.ind with
  | h k n g l u s ks ih =>
    intro hok hsz w B m d hts
    have hks : (Tm.mk k n g l u s ks).args = ks := rfl
    have hl := Tm.size_args (Tm.mk k n g l u s ks)
    rw [← hks] at ih
    generalize Tm.mk k n g l u s ks = t at *
    exact termsO_of t.args (fun x hx => ih x hx (Ok.kids hok hx) (Nat.le_trans (Tm.size_kid hx) hsz)) (fun x hx => Ok.kids hok hx) w B m d hts (by rw [← hts.len]; omega)

set_option maxRecDepth 100000 in
set_option maxHeartbeats 2000000 in
/-- fresh.Apart, of terms that are not too many. -/
theorem freshApartO_any (w : World) (B : Option Addr) (m d : Nat) (ts : List Tm) (hts : TVs w B m d ts) (hok : ∀ t ∈ ts, t.Ok) (hsz : Tm.size.sizes ts ≤ 10000) (most : Int) (hm0 : 10000 < most) (hm1 : most ≤ 1000000000) :
    Calls Try.prog 19 #[.slice B m d, .int .i64 most] w (CpTsO w ts) := by
  have hb0 := (Below.refl w.heap.size w).alloc (Nat.le_refl _) (.cells #[.map none] 54)
  have hl := Tm.sizes_len ts
  have hm : m ≤ 10000 := by rw [← hts.len]; omega
  have hx : (w.alloc (.cells #[.map none] 54)).cell? ⟨w.heap.size, 0, none⟩ = some (.map none) := by rw [World.cell?_alloc_at _ _ _ _ rfl]; rfl
  have hplt : w.heap.size < (w.alloc (.cells #[.map none] 54)).heap.size := by simp
  go_enter Try.func19, Try.ntmps19
  go_wp2_with fail
  have hts0 := hts.below hb0
  generalize w.alloc (.cells #[.map none] 54) = W at *
  refine (left_any W B m d ts hts0 most (by omega) hm1).mono ?_
  rintro e w1 ⟨rfl, hb1⟩
  have hx1 := (hb1.cell (p := ⟨w.heap.size, 0, none⟩) hplt).trans hx
  have b1 := hb0.trans (hb1.mono hb0.size)
  have e0 : decide ((most - (Tm.size.sizes ts : Int)) ≤ 0) = false := by rw [decide_eq_false_iff_not]; omega
  generalize (most - (Tm.size.sizes ts : Int)) = q at e0 ⊢
  have hts1 := hts0.below hb1
  clear hx hts0 hts
  go_wp2_with fail
  have hsz' : (Tm.mk 0 0 false [] 0 ⟨#[]⟩ ts).size ≤ 100000 := by rw [Tm.size]; omega
  have hok' : (Tm.mk 0 0 false [] 0 ⟨#[]⟩ ts).Ok := Tm.ok_mk.2 ⟨by simp, by simp [ByteArray.size], hok⟩
  refine (termsO_args (Tm.mk 0 0 false [] 0 ⟨#[]⟩ ts) hok' hsz' w1 B m d hts1).mono ?_
  rintro e w2 ⟨B', m', d', rfl, hT, hR, hb2⟩
  go_wp2
  go_ret
  exact ⟨B', m', d', rfl, hT.mono (fun b h => Nat.le_trans b1.size h), hR.mono (fun b _ h => Nat.le_trans b1.size h), b1.trans (hb2.mono b1.size)⟩
end Go.Proofs.Ytmcfokeibecopaa

namespace Go.Proofs.Ytmcfokeibecopaa
open Go.RowKit
open Od

/-- What Sort leaves. -/
def StPO (w : World) (ts : List Tm) (e : Ending) (w' : World) : Prop :=
  ∃ (us : List Tm) (B' : Option Addr) (m' d' : Nat), e = .returned (.slice B' m' d') ∧ TVSs (fun b => w.heap.size ≤ b) w' B' m' d' us ∧ Sfe (fun b => w.heap.size ≤ b) w' (rowR B' m' d') ∧ Below w.heap.size w w' ∧ Hid (SrtOf ts us)

set_option maxRecDepth 100000 in
set_option maxRecDepth 100000 in
set_option maxHeartbeats 8000000 in
theorem sortO_any (w : World) (B : Option Addr) (m c : Nat) (ts : List Tm) (hts : TVs w B m c ts) (hok : ∀ t ∈ ts, t.Ok) (hsz : Tm.size.sizes ts ≤ 10000) :
    Calls Try.prog 7 #[.slice B m c] w (StPO w ts) := by
  have hlen := hts.len
  have hml := Tm.sizes_len ts
  have hm : m ≤ 10000 := by omega
  obtain ⟨b, o, hB⟩ : ∃ b o, 0 < m → B = some ⟨b, o, none⟩ := by
    by_cases h0 : 0 < m
    · obtain ⟨b, o, _, _, e, _⟩ := hts.get 0 h0
      exact ⟨b, o, fun _ => e⟩
    · exact ⟨0, 0, fun h => absurd h h0⟩
  have HT := Lib.hid hts
  have HO := Lib.hid hok
  clear hts hok
  go_enter Try.func7, Try.ntmps7
  go_wp2_with fail
  go_loopw [9] (fun i w' => ∃ j : Nat, j ≤ m ∧ i = .int .i64 (j : Int) ∧ Hid (∀ (x : Nat) (t : Tm), x < j → ts[x]? = some t → t.mayB = true) ∧ Below w.heap.size w w') (fun i _ => m - (intOf i).toNat)
  case atStart => exact ⟨0, Nat.zero_le _, rfl, Lib.hid (fun x t h => absurd h (by omega)), Below.refl _ _⟩
  case round =>
    obtain ⟨j, hj, rfl, hall, hb⟩ := hrel
    by_cases hjm : j < m
    · have hd1 : decide ((j : Int) < (m : Int)) = true := decide_eq_true (by omega)
      obtain ⟨b1, o1, r, t, e, hlt, h7, het, htv⟩ := (HT.out.below hb).get j hjm
      subst e
      have hmem := List.mem_of_getElem? het
      have y0 := h7.c0; have y1 := h7.c1; have y2 := h7.c2; have y3 := h7.c3; have y4 := h7.c4; have y5 := h7.c5; have y6 := h7.c6
      go_wp2_with fail
      refine (mayTerm_any wr r t htv (HO.out t hmem)).mono ?_
      cases hmt : t.mayB with
      | false =>
        have hno := Lib.hid (show SrtOf ts [] from ⟨fun h => absurd (h t hmem) (by rw [hmt]; decide), fun _ => rfl⟩)
        rintro _ v ⟨rfl, hv⟩
        clear y0 y1 y2 y3 y4 y5 y6 h7 htv
        go_wp2
        go_ret
        exact ⟨[], none, 0, 0, rfl, TVSs.nil _ _ _ _ (Nat.zero_le _), Sfe.leaf rfl rfl rfl rfl, hb.trans (hv.mono hb.size), hno⟩
      | true =>
        have hst := Lib.hid (show ∀ (x : Nat) (t : Tm), x < j + 1 → ts[x]? = some t → t.mayB = true from fun x t' h1 h2 => by
          by_cases e : x = j
          · subst e
            rw [het] at h2
            cases h2
            exact hmt
          · exact hall.out x t' (by omega) h2)
        rintro _ v ⟨rfl, hv⟩
        clear y0 y1 y2 y3 y4 y5 y6 h7 htv
        go_wp2_with fail
        exact ⟨⟨j + 1, by omega, by go_num, hst, hb.trans (hv.mono hb.size)⟩, by simp [intOf]; omega⟩
    · have hd1 : decide ((j : Int) < (m : Int)) = false := decide_eq_false (by omega)
      have hmay : ∀ t ∈ ts, t.mayB = true := fun t ht => by
        obtain ⟨x, hx⟩ := List.getElem?_of_mem ht
        exact hall.out x t (by have := (List.getElem?_eq_some_iff.1 hx).1; omega) hx
      have HMAY := Lib.hid hmay
      clear hall hmay
      have hmk := make_terms m (by omega)
      have row0 := heap_alloc_new wr (.cells (madeCells (Value.cells (.agg #[.int .i64 zeroR.k, .int .i64 zeroR.n, .bool zeroR.g, .slice zeroR.A zeroR.ln zeroR.lc, .int .u64 zeroR.u, .string zeroR.s, .slice zeroR.B zeroR.m zeroR.d])) (m * 7)) 28)
      have bW := hb.alloc hb.size (.cells (madeCells (Value.cells (.agg #[.int .i64 zeroR.k, .int .i64 zeroR.n, .bool zeroR.g, .slice zeroR.A zeroR.ln zeroR.lc, .int .u64 zeroR.u, .string zeroR.s, .slice zeroR.B zeroR.m zeroR.d])) (m * 7)) 28)
      have hW1 : (wr.alloc (.cells (madeCells (Value.cells (.agg #[.int .i64 zeroR.k, .int .i64 zeroR.n, .bool zeroR.g, .slice zeroR.A zeroR.ln zeroR.lc, .int .u64 zeroR.u, .string zeroR.s, .slice zeroR.B zeroR.m zeroR.d])) (m * 7)) 28)).heap.size = wr.heap.size + 1 := by simp
      have hbs := hb.size
      go_wp2_with fail
      change Calls _ _ _ (wr.alloc (.cells (madeCells (Value.cells (.agg #[.int .i64 zeroR.k, .int .i64 zeroR.n, .bool zeroR.g, .slice zeroR.A zeroR.ln zeroR.lc, .int .u64 zeroR.u, .string zeroR.s, .slice zeroR.B zeroR.m zeroR.d])) (m * 7)) 28)) _
      generalize wr.alloc (.cells (madeCells (Value.cells (.agg #[.int .i64 zeroR.k, .int .i64 zeroR.n, .bool zeroR.g, .slice zeroR.A zeroR.ln zeroR.lc, .int .u64 zeroR.u, .string zeroR.s, .slice zeroR.B zeroR.m zeroR.d])) (m * 7)) 28) = W1 at *
      obtain ⟨g2, hg2⟩ : ∃ g2, g2 = wr.heap.size := ⟨_, rfl⟩
      rw [← hg2] at row0 hW1 hbs ⊢
      clear hg2 hb hmk
      have hS : SoT W1 b o m ts := by
        refine ⟨⟨c, ?_⟩, fun t ht => Tm.may_form (HMAY.out t ht)⟩
        have hT1 := HT.out.below bW
        by_cases h0 : 0 < m
        · rw [hB h0] at hT1; exact hT1
        · have hm0 : m = 0 := by omega
          have hts0 : ts = [] := List.eq_nil_of_length_eq_zero (by omega)
          rw [hm0, hts0]
          exact TVs.nil _ _ _ hT1.dd
      refine (ascending_any W1 b o m c B hB ts hS (by omega)).mono ?_
      rintro _ W2 ⟨g, d, rfl, J, mv, up⟩
      have hdm := J.dm
      have R0 : RwI w b o m g d ts g2 0 W2 := by
        have hgb := J.gb
        obtain ⟨cs, k1, k2, k3⟩ := J.row
        exact ⟨bW.trans (J.be.mono bW.size), ⟨cs, k1, k3⟩, by omega, hbs, _, fun _ => default, (J.be.block g2 (by omega)).trans row0, size_madeCells _ _, fun i hi => absurd hi (by omega), fun i hi => absurd hi (by omega)⟩
      have HS := Lib.hid (show SrtOf ts (byD ts m d) from ⟨fun _ => ⟨byD_perm hlen mv, byD_rise up⟩, fun hn => absurd HMAY.out hn⟩)
      have HP := Lib.hid (byD_perm hlen mv)
      have HDM := Lib.hid hdm
      clear J mv up hdm hS row0 bW
      go_wp2_with fail
      go_loopw [25] (fun i w' => ∃ k : Nat, k ≤ m ∧ i = .int .i64 (k : Int) ∧ RwI w b o m g d ts g2 k w') (fun i _ => m - (intOf i).toNat)
      case atStart => exact ⟨0, Nat.zero_le _, rfl, R0⟩
      case round =>
        clear R0
        obtain ⟨k, hk, rfl, J⟩ := hrel
        by_cases hkm : k < m
        · have hd2 : decide ((k : Int) < (m : Int)) = true := decide_eq_true (by omega)
          have hBB := hB (by omega)
          have hdk := HDM.out k hkm
          obtain ⟨b1, o1, r, t, e, hlt, h7w, het, htv⟩ := HT.out.get (d k) hdk
          rw [hBB] at e
          cases e
          have hat : at' ts (d k) = t := by unfold at'; rw [List.getD_eq_getElem?_getD, het]; rfl
          have h7 := h7w.below J.be hlt
          have pc := J.pc hkm
          have y0 := h7.c0; have y1 := h7.c1; have y2 := h7.c2; have y3 := h7.c3; have y4 := h7.c4; have y5 := h7.c5; have y6 := h7.c6
          obtain ⟨v0, q0⟩ := J.cell (x := k * 7) (by omega)
          obtain ⟨v1, q1⟩ := J.cell (x := k * 7 + 1) (by omega)
          obtain ⟨v2, q2⟩ := J.cell (x := k * 7 + 2) (by omega)
          obtain ⟨v3, q3⟩ := J.cell (x := k * 7 + 3) (by omega)
          obtain ⟨v4, q4⟩ := J.cell (x := k * 7 + 4) (by omega)
          obtain ⟨v5, q5⟩ := J.cell (x := k * 7 + 5) (by omega)
          obtain ⟨v6, q6⟩ := J.cell (x := k * 7 + 6) (by omega)
          have f0 := J.frozen (k * 7)
          have f1 := J.frozen (k * 7 + 1)
          have f2 := J.frozen (k * 7 + 2)
          have f3 := J.frozen (k * 7 + 3)
          have f4 := J.frozen (k * 7 + 4)
          have f5 := J.frozen (k * 7 + 5)
          have f6 := J.frozen (k * 7 + 6)
          have J1 := Lib.hid ((J.put r).step (by rw [hat]; exact htv) (put7o_at r (fun x hx => J.cell (x := k * 7 + x) (by omega))))
          clear J h7 h7w het htv hat
          go_wp2_with fail
          exact ⟨⟨k + 1, by omega, by go_num, by exact J1.out⟩, by simp [intOf]; omega⟩
        · have hd2 : decide ((k : Int) < (m : Int)) = false := decide_eq_false (by omega)
          have e : k = m := by omega
          subst e
          have hT := J.all (by omega)
          have hok' : ∀ t ∈ byD ts k d, t.Ok := fun t ht => HO.out t (HP.out.mem_iff.1 ht)
          have hsz' : Tm.size.sizes (byD ts k d) ≤ 10000 := by rw [sizes_perm HP.out]; exact hsz
          have hbe := J.be
          clear J
          go_wp2_with fail
          refine (freshApartO_any wr _ k k (byD ts k d) hT hok' hsz' 22369621 (by omega) (by omega)).mono ?_
          rintro _ v ⟨B', m', d', rfl, hT2, hR2, hv⟩
          have hv2 := hv
          clear hT
          go_wp2
          go_ret
          exact ⟨byD ts k d, B', m', d', rfl, hT2.mono (fun b h => Nat.le_trans hbe.size h), hR2.mono (fun b _ h => Nat.le_trans hbe.size h), hbe.trans (hv2.mono hbe.size), HS⟩
end Go.Proofs.Ytmcfokeibecopaa
