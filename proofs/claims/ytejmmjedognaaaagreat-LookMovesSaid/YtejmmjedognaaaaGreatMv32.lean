/-
  PACKAGE fresh: terms that are copied apart (no map is kept).
  TERMS THAT ARE WRITTEN OVER: what stays what it is, whatever shares memory.
-/
import Derived.Test.YtejmmjedognaaaaGreatMv31
import Derived.Test.YtejmmjedognaaaaGreatMv16
import Derived.ArgAppend
namespace Go.Proofs.YtejmmjedognaaaaGreat
open Go.RowKit

set_option maxRecDepth 100000 in
theorem make_terms (n : Nat) (hn : n ≤ 100000) (w : World) :
    (Instr.makeSlice 38 (.int .i64 (n : Int)) (.int .i64 (n : Int))).run Tryz.prog w = .ok (.slice (some ⟨w.heap.size, 0, none⟩) n n) (w.alloc (.cells (madeCells (Value.cells (.agg #[.int .i64 zeroR.k, .int .i64 zeroR.n, .bool zeroR.g, .slice zeroR.A zeroR.ln zeroR.lc, .int .u64 zeroR.u, .string zeroR.s, .slice zeroR.B zeroR.m zeroR.d])) (n * 7)) 40)) := by
  obtain ⟨i, hi, hz, hs, hb⟩ := info_term'
  have h := run_make (P := Tryz.prog) w 38 40 i _ und_terms hi hz .i64 .i64 n n (by omega) (by omega) (by rw [hb]; omega) (by omega)
  rw [hs] at h
  simp only [Int.toNat_natCast] at h
  exact h

/-- A record is written into the row, from cell x on. -/
@[reducible] def put7o (w : World) (g x : Nat) (r : TR) : World :=
  ((((((w.setCell ⟨g, x, none⟩ (.int .i64 r.k)).setCell ⟨g, x + 1, none⟩ (.int .i64 r.n)).setCell ⟨g, x + 2, none⟩ (.bool r.g)).setCell ⟨g, x + 3, none⟩ (.slice r.A r.ln r.lc)).setCell ⟨g, x + 4, none⟩ (.int .u64 r.u)).setCell ⟨g, x + 5, none⟩ (.string r.s)).setCell ⟨g, x + 6, none⟩ (.slice r.B r.m r.d)
set_option maxRecDepth 100000 in
theorem setOth {w : World} {g x y : Nat} {u : Value} {X : Option Value} (h : w.cell? ⟨g, y, none⟩ = X) (hn : x ≠ y) : (w.setCell ⟨g, x, none⟩ u).cell? ⟨g, y, none⟩ = X := by
  exact (World.cell?_setCell_other w _ _ _ (fun e => by cases e; exact hn rfl)).trans h
set_option maxRecDepth 100000 in
theorem setAny {w : World} {g x y : Nat} {u : Value} (h : ∃ v, w.cell? ⟨g, y, none⟩ = some v) : ∃ v, (w.setCell ⟨g, x, none⟩ u).cell? ⟨g, y, none⟩ = some v := by
  obtain ⟨v, h⟩ := h
  exact cell?_setCell_some h
set_option maxRecDepth 100000 in
theorem setSame {w : World} {g x : Nat} {u : Value} (h : ∃ v, w.cell? ⟨g, x, none⟩ = some v) : (w.setCell ⟨g, x, none⟩ u).cell? ⟨g, x, none⟩ = some u := by
  obtain ⟨v, h⟩ := h
  exact World.cell?_setCell_same w _ _ h
set_option maxRecDepth 100000 in
theorem put7o_at {W : World} {g x : Nat} (r : TR) (h : ∀ k, k < 7 → ∃ v, W.cell? ⟨g, x + k, none⟩ = some v) : At7 (put7o W g x r) g x r where
  c0 := setOth (setOth (setOth (setOth (setOth (setOth (setSame (h 0 (by omega))) (by omega)) (by omega)) (by omega)) (by omega)) (by omega)) (by omega)
  c1 := setOth (setOth (setOth (setOth (setOth (setSame (setAny (h 1 (by omega)))) (by omega)) (by omega)) (by omega)) (by omega)) (by omega)
  c2 := setOth (setOth (setOth (setOth (setSame (setAny (setAny (h 2 (by omega))))) (by omega)) (by omega)) (by omega)) (by omega)
  c3 := setOth (setOth (setOth (setSame (setAny (setAny (setAny (h 3 (by omega)))))) (by omega)) (by omega)) (by omega)
  c4 := setOth (setOth (setSame (setAny (setAny (setAny (setAny (h 4 (by omega))))))) (by omega)) (by omega)
  c5 := setOth (setSame (setAny (setAny (setAny (setAny (setAny (h 5 (by omega)))))))) (by omega)
  c6 := setSame (setAny (setAny (setAny (setAny (setAny (setAny (h 6 (by omega))))))))
set_option maxRecDepth 100000 in
theorem At7.set3 {W : World} {g x : Nat} {r : TR} (h : At7 W g x r) (A : Option Addr) (n c : Nat) : At7 (W.setCell ⟨g, x + 3, none⟩ (.slice A n c)) g x ⟨r.k, r.n, r.g, A, n, c, r.u, r.s, r.B, r.m, r.d⟩ :=
  ⟨setOth h.c0 (by omega), setOth h.c1 (by omega), setOth h.c2 (by omega), setSame ⟨_, h.c3⟩, setOth h.c4 (by omega), setOth h.c5 (by omega), setOth h.c6 (by omega)⟩
set_option maxRecDepth 100000 in
theorem At7.set6 {W : World} {g x : Nat} {r : TR} (h : At7 W g x r) (B : Option Addr) (n c : Nat) : At7 (W.setCell ⟨g, x + 6, none⟩ (.slice B n c)) g x ⟨r.k, r.n, r.g, r.A, r.ln, r.lc, r.u, r.s, B, n, c⟩ :=
  ⟨setOth h.c0 (by omega), setOth h.c1 (by omega), setOth h.c2 (by omega), setOth h.c3 (by omega), setOth h.c4 (by omega), setOth h.c5 (by omega), setSame ⟨_, h.c6⟩⟩

set_option maxRecDepth 100000 in
theorem TVS.copied {S : Nat → Prop} {w W : World} {r : TR} {t : Tm} {A B : Option Addr} {n c m d : Nat} (h : TV w r t) (L : Lim W A n c t.mag) (hc : c ≤ maxLen) (hS : 0 < n → ∀ a, A = some a → S a.block) (hT : TVSs S W B m d t.args) :
    TVS S W ⟨r.k, r.n, r.g, A, n, c, r.u, r.s, B, m, d⟩ t := by
  obtain ⟨V, h1, h2⟩ := hT.el
  have F := h.flat
  have := TVS.mk (S := S) (w := W) ⟨r.k, r.n, r.g, A, n, c, r.u, r.s, B, m, d⟩ t.mag t.args V ⟨F.k0, F.k1, F.n0, F.n1, F.u0, F.u1, L, hc, F.str, hT.md, hT.dd⟩ hT.len h1 ⟨hS, fun h a e => hT.on h a e⟩ h2
  have et : Tm.mk r.k r.n r.g t.mag r.u r.s t.args = t := by
    have e1 := h.kind
    have e2 := h.num
    have e3 := h.neg
    have e4 := h.bits
    have e5 := h.bytes
    cases t
    simp only [Tm.kind, Tm.num, Tm.neg, Tm.bits, Tm.bytes] at e1 e2 e3 e4 e5
    subst e1 e2 e3 e4 e5
    rfl
  rw [← et]
  exact this

end Go.Proofs.YtejmmjedognaaaaGreat

namespace Go.Proofs.YtejmmjedognaaaaGreat
open Go.RowKit

/-- What is written over a part. -/
def overR : TR := ⟨-9, 0, false, none, 0, 0, 0, ⟨#[]⟩, none, 0, 0⟩

/-- Rows of limbs stay rows of limbs, rows of records stay such; each record is what it was, or is written over; blocks that are not in S stay. -/
structure Ovr (S : Nat → Prop) (w w' : World) : Prop where
  os : w'.os = w.os
  tape : w'.tape = w.tape
  output : w'.output = w.output
  size : w.heap.size ≤ w'.heap.size
  rest : ∀ b, b < w.heap.size → ¬ S b → w'.heap[b]? = w.heap[b]?
  lim : ∀ b cs, S b → w.heap[b]? = some (.cells cs 128 (0, 0)) → ∃ cs', w'.heap[b]? = some (.cells cs' 128 (0, 0)) ∧ cs'.size = cs.size
  row : ∀ b cs, S b → w.heap[b]? = some (.cells cs 40 (0, 0)) → ∃ cs', w'.heap[b]? = some (.cells cs' 40 (0, 0)) ∧ cs'.size = cs.size ∧ ∀ i r, At7 w b (i * 7) r → At7 w' b (i * 7) r ∨ At7 w' b (i * 7) overR
section
variable {S : Nat → Prop} {w w' w2 : World}
set_option maxRecDepth 100000 in
theorem Ovr.of_below (h : Below w.heap.size w w') : Ovr S w w' where
  os := h.os
  tape := h.tape
  output := h.output
  size := h.size
  rest := fun b hb _ => h.block b hb
  lim := fun b cs _ e => ⟨cs, (h.block b (Array.getElem?_eq_some_iff.1 e).1).trans e, rfl⟩
  row := fun b cs _ e => ⟨cs, (h.block b (Array.getElem?_eq_some_iff.1 e).1).trans e, rfl, fun _ _ h7 => .inl (h7.keep (h.block b (Array.getElem?_eq_some_iff.1 e).1))⟩
set_option maxRecDepth 100000 in
theorem Ovr.refl (S : Nat → Prop) (w : World) : Ovr S w w := Ovr.of_below (Below.refl _ _)
set_option maxRecDepth 100000 in
theorem Ovr.trans (h : Ovr S w w') (k : Ovr S w' w2) : Ovr S w w2 where
  os := k.os.trans h.os
  tape := k.tape.trans h.tape
  output := k.output.trans h.output
  size := Nat.le_trans h.size k.size
  rest := fun b hb hn => (k.rest b (Nat.lt_of_lt_of_le hb h.size) hn).trans (h.rest b hb hn)
  lim := fun b cs hs e => by
    obtain ⟨c1, e1, z1⟩ := h.lim b cs hs e
    obtain ⟨c2, e2, z2⟩ := k.lim b c1 hs e1
    exact ⟨c2, e2, z2.trans z1⟩
  row := fun b cs hs e => by
    obtain ⟨c1, e1, z1, p1⟩ := h.row b cs hs e
    obtain ⟨c2, e2, z2, p2⟩ := k.row b c1 hs e1
    refine ⟨c2, e2, z2.trans z1, fun i r h7 => ?_⟩
    rcases p1 i r h7 with a | a
    · exact p2 i r a
    · exact .inr ((p2 i overR a).elim id id)
set_option maxRecDepth 100000 in
theorem Ovr.below (h : Ovr S w w') {base : Nat} (hS : ∀ b, S b → base ≤ b) (hb : base ≤ w.heap.size) : Below base w w' :=
  ⟨h.os, h.tape, h.output, h.size, fun k hk => h.rest k (Nat.lt_of_lt_of_le hk hb) (fun hs => by have := hS k hs; omega)⟩
set_option maxRecDepth 100000 in
theorem Ovr.drew (h : Ovr S w w') : Ovr S w w'.drew := h.trans (Ovr.of_below (Below.refl _ _).drew)
set_option maxRecDepth 100000 in
theorem Ovr.alloc (h : Ovr S w w') (o : Obj) : Ovr S w (w'.alloc o) := h.trans (Ovr.of_below ((Below.refl _ _).alloc (Nat.le_refl _) o))
set_option maxRecDepth 100000 in
/-- A row of limbs is written. -/
theorem Ovr.limbs {g N : Nat} {cs cs' : Array Value} (hg : w.grownBy w' (some g)) (hs : S g) (h : Rw w g N cs) (h' : Rw w' g N cs') : Ovr S w w' where
  os := hg.os
  tape := hg.tape
  output := hg.output
  size := hg.size
  rest := fun b hb hn => hg.block b hb (fun e => by injection e with e; subst e; exact hn hs)
  lim := fun b c _ e => by
    by_cases hbg : b = g
    · subst hbg
      have e1 := h.1
      rw [e] at e1
      injection e1 with e1
      injection e1 with e1
      subst e1
      exact ⟨cs', h'.1, by rw [h'.2, h.2]⟩
    · exact ⟨c, (hg.block b (Array.getElem?_eq_some_iff.1 e).1 (fun x => by injection x with x; exact hbg x)).trans e, rfl⟩
  row := fun b c _ e => by
    by_cases hbg : b = g
    · subst hbg
      have e1 := h.1
      rw [e] at e1
      injection e1 with e1
      injection e1 with _ e1
      exact absurd e1 (by decide)
    · have hb := hg.block b (Array.getElem?_eq_some_iff.1 e).1 (fun x => by injection x with x; exact hbg x)
      exact ⟨c, hb.trans e, rfl, fun i r h7 => .inl (h7.keep hb)⟩
set_option maxRecDepth 100000 in
theorem set_heap {w : World} {g x : Nat} {u : Value} {cs : Array Value} {ty : TypeId} (h : w.heap[g]? = some (.cells cs ty (0, 0))) : ∃ cs', (w.setCell ⟨g, x, none⟩ u).heap[g]? = some (.cells cs' ty (0, 0)) ∧ cs'.size = cs.size :=
  ⟨cs.setIfInBounds x u, by simp [World.setCell, Array.getElem?_modify, h], by simp⟩
set_option maxRecDepth 100000 in
theorem put7o_heap {w : World} {g x : Nat} {cs : Array Value} {ty : TypeId} (r : TR) (h : w.heap[g]? = some (.cells cs ty (0, 0))) : ∃ cs', (put7o w g x r).heap[g]? = some (.cells cs' ty (0, 0)) ∧ cs'.size = cs.size := by
  obtain ⟨c0, h0, z0⟩ := set_heap (x := x) (u := .int .i64 r.k) h
  obtain ⟨c1, h1, z1⟩ := set_heap (x := x + 1) (u := .int .i64 r.n) h0
  obtain ⟨c2, h2, z2⟩ := set_heap (x := x + 2) (u := .bool r.g) h1
  obtain ⟨c3, h3, z3⟩ := set_heap (x := x + 3) (u := .slice r.A r.ln r.lc) h2
  obtain ⟨c4, h4, z4⟩ := set_heap (x := x + 4) (u := .int .u64 r.u) h3
  obtain ⟨c5, h5, z5⟩ := set_heap (x := x + 5) (u := .string r.s) h4
  obtain ⟨c6, h6, z6⟩ := set_heap (x := x + 6) (u := .slice r.B r.m r.d) h5
  exact ⟨c6, h6, by omega⟩
set_option maxRecDepth 100000 in
theorem put7o_other {w : World} {g x b : Nat} (r : TR) (hne : g ≠ b) : (put7o w g x r).heap[b]? = w.heap[b]? :=
  (Below.heap_setCell _ ⟨g, _, none⟩ _ b hne.symm).trans ((Below.heap_setCell _ ⟨g, _, none⟩ _ b hne.symm).trans ((Below.heap_setCell _ ⟨g, _, none⟩ _ b hne.symm).trans ((Below.heap_setCell _ ⟨g, _, none⟩ _ b hne.symm).trans ((Below.heap_setCell _ ⟨g, _, none⟩ _ b hne.symm).trans ((Below.heap_setCell _ ⟨g, _, none⟩ _ b hne.symm).trans (Below.heap_setCell _ ⟨g, _, none⟩ _ b hne.symm))))))
set_option maxRecDepth 100000 in
theorem put7o_cell {w : World} {g x y : Nat} (r : TR) {X : Option Value} (h : w.cell? ⟨g, y, none⟩ = X) (hn : y < x ∨ x + 7 ≤ y) : (put7o w g x r).cell? ⟨g, y, none⟩ = X :=
  setOth (setOth (setOth (setOth (setOth (setOth (setOth h (by omega)) (by omega)) (by omega)) (by omega)) (by omega)) (by omega)) (by omega)
set_option maxRecDepth 100000 in
theorem put7o_far {w : World} {g x y : Nat} (r : TR) {r' : TR} (h : At7 w g y r') (hn : y + 7 ≤ x ∨ x + 7 ≤ y) : At7 (put7o w g x r) g y r' where
  c0 := put7o_cell r h.c0 (by omega)
  c1 := put7o_cell r h.c1 (by omega)
  c2 := put7o_cell r h.c2 (by omega)
  c3 := put7o_cell r h.c3 (by omega)
  c4 := put7o_cell r h.c4 (by omega)
  c5 := put7o_cell r h.c5 (by omega)
  c6 := put7o_cell r h.c6 (by omega)
set_option maxRecDepth 100000 in
theorem put7o_be (w : World) (g x : Nat) (r : TR) : Below 0 w (put7o w g x r) :=
  (((((((Below.refl 0 w).setCell (p := ⟨g, x, none⟩) (Nat.zero_le _) _).setCell (p := ⟨g, x + 1, none⟩) (Nat.zero_le _) _).setCell (p := ⟨g, x + 2, none⟩) (Nat.zero_le _) _).setCell (p := ⟨g, x + 3, none⟩) (Nat.zero_le _) _).setCell (p := ⟨g, x + 4, none⟩) (Nat.zero_le _) _).setCell (p := ⟨g, x + 5, none⟩) (Nat.zero_le _) _).setCell (p := ⟨g, x + 6, none⟩) (Nat.zero_le _) _
set_option maxRecDepth 100000 in
/-- A record of a row is written over. -/
theorem Ovr.record {g j : Nat} {cs : Array Value} (hs : S g) (hg : w.heap[g]? = some (.cells cs 40 (0, 0))) (h7 : ∀ k, k < 7 → ∃ v, w.cell? ⟨g, j * 7 + k, none⟩ = some v) : Ovr S w (put7o w g (j * 7) overR) := by
  have hbe := put7o_be w g (j * 7) overR
  have hat := put7o_at overR h7
  have hfar : ∀ i r, i ≠ j → At7 w g (i * 7) r → At7 (put7o w g (j * 7) overR) g (i * 7) r := fun i r hij h => put7o_far overR h (by omega)
  have hoth : ∀ b, g ≠ b → (put7o w g (j * 7) overR).heap[b]? = w.heap[b]? := fun b hne => put7o_other overR hne
  obtain ⟨cs', hh, hz⟩ := put7o_heap (x := j * 7) overR hg
  generalize put7o w g (j * 7) overR = w' at *
  refine ⟨hbe.os, hbe.tape, hbe.output, hbe.size, fun b hb hn => hoth b (fun e => by subst e; exact hn hs), fun b c _ e => ?_, fun b c _ e => ?_⟩
  · have hne : g ≠ b := fun x => by
      subst x
      rw [hg] at e
      injection e with e1
      injection e1 with _ e1
      exact absurd e1 (by decide)
    exact ⟨c, (hoth b hne).trans e, rfl⟩
  · by_cases hne : g = b
    · subst hne
      rw [hg] at e
      injection e with e1
      injection e1 with e1
      subst e1
      refine ⟨cs', hh, hz, fun i r h => ?_⟩
      by_cases hij : i = j
      · subst hij
        exact .inr hat
      · exact .inl (hfar i r hij h)
    · exact ⟨c, (hoth b hne).trans e, rfl, fun _ _ h => .inl (h.keep (hoth b hne))⟩
end

/-- A record whose limbs and parts lie in rows that are made, down to the leaves. -/
inductive Sfe (S : Nat → Prop) (w : World) : TR → Prop
  | mk (r : TR) (V : Nat → TR) (hn : r.ln ≤ 1000) (hm : r.m ≤ 100000)
    (hl : (r.ln = 0 ∧ r.A = none ∧ r.lc = 0) ∨ ∃ g cs, S g ∧ r.A = some ⟨g, 0, none⟩ ∧ Rw w g r.lc cs ∧ r.ln ≤ r.lc ∧ r.lc ≤ maxLen)
    (hb : 0 < r.m → ∃ g cs, S g ∧ r.B = some ⟨g, 0, none⟩ ∧ w.heap[g]? = some (.cells cs 40 (0, 0)) ∧ ∀ i, i < r.m → At7 w g (i * 7) (V i))
    (hk : ∀ i, i < r.m → Sfe S w (V i)) : Sfe S w r
section
variable {S S' : Nat → Prop} {w w' : World} {r : TR}
set_option maxRecDepth 100000 in
theorem Sfe.leaf {r : TR} (h1 : r.ln = 0) (h2 : r.A = none) (h3 : r.lc = 0) (h4 : r.m = 0) : Sfe S w r :=
  .mk r (fun _ => default) (by omega) (by omega) (.inl ⟨h1, h2, h3⟩) (fun h => by omega) (fun i h => by omega)
set_option maxRecDepth 100000 in
theorem Sfe.over : Sfe S w overR := Sfe.leaf rfl rfl rfl rfl
set_option maxRecDepth 100000 in
theorem Sfe.ovr (h : Sfe S w r) (k : Ovr S w w') : Sfe S w' r := by
  induction h with
  | mk r V hn hm hl hb hk ih =>
    by_cases h0 : 0 < r.m
    · obtain ⟨g, cs, hs, hB, hg, h7⟩ := hb h0
      obtain ⟨cs', hg', hz, hp⟩ := k.row g cs hs hg
      classical
      refine .mk r (fun i => if At7 w' g (i * 7) (V i) then V i else overR) hn hm ?_ (fun _ => ⟨g, cs', hs, hB, hg', fun i hi => ?_⟩) (fun i hi => ?_)
      · rcases hl with hl | ⟨ga, ca, hsa, hA, hr, h1, h2⟩
        · exact .inl hl
        · obtain ⟨c2, e2, z2⟩ := k.lim ga ca hsa hr.1
          exact .inr ⟨ga, c2, hsa, hA, ⟨e2, z2.trans hr.2⟩, h1, h2⟩
      · by_cases e : At7 w' g (i * 7) (V i)
        · simp only [e, if_true]
        · simp only [e, if_false]
          exact (hp i _ (h7 i hi)).resolve_left e
      · by_cases e : At7 w' g (i * 7) (V i)
        · simp only [e, if_true]
          exact ih i hi
        · simp only [e, if_false]
          exact Sfe.over
    · refine .mk r V hn hm ?_ (fun h => absurd h h0) (fun i hi => by omega)
      rcases hl with hl | ⟨ga, ca, hsa, hA, hr, h1, h2⟩
      · exact .inl hl
      · obtain ⟨c2, e2, z2⟩ := k.lim ga ca hsa hr.1
        exact .inr ⟨ga, c2, hsa, hA, ⟨e2, z2.trans hr.2⟩, h1, h2⟩
set_option maxRecDepth 100000 in
theorem Sfe.keep (h : Sfe S w r) (k : Keeps S w w') : Sfe S w' r := by
  induction h with
  | mk r V hn hm hl hb hk ih =>
    refine .mk r V hn hm ?_ (fun h0 => ?_) ih
    · rcases hl with hl | ⟨ga, ca, hsa, hA, hr, h1, h2⟩
      · exact .inl hl
      · exact .inr ⟨ga, ca, hsa, hA, ⟨(k.block ga hsa hr.lt).trans hr.1, hr.2⟩, h1, h2⟩
    · obtain ⟨g, cs, hs, hB, hg, h7⟩ := hb h0
      have e := k.block g hs (Array.getElem?_eq_some_iff.1 hg).1
      exact ⟨g, cs, hs, hB, e.trans hg, fun i hi => (h7 i hi).keep e⟩
set_option maxRecDepth 100000 in
theorem Sfe.bel (h : Sfe S w r) (hb : Below w.heap.size w w') : Sfe S w' r := h.keep (hb.keeps _)
set_option maxRecDepth 100000 in
theorem Sfe.mono (h : Sfe S w r) (hS : ∀ b, b < w.heap.size → S b → S' b) : Sfe S' w r := by
  induction h with
  | mk r V hn hm hl hb hk ih =>
    refine .mk r V hn hm ?_ (fun h0 => ?_) ih
    · rcases hl with hl | ⟨ga, ca, hsa, hA, hr, h1, h2⟩
      · exact .inl hl
      · exact .inr ⟨ga, ca, hS _ hr.lt hsa, hA, hr, h1, h2⟩
    · obtain ⟨g, cs, hs, hB, hg, h7⟩ := hb h0
      exact ⟨g, cs, hS _ (Array.getElem?_eq_some_iff.1 hg).1 hs, hB, hg, h7⟩
end

set_option maxRecDepth 100000 in
/-- One limb is put behind a row: the row stays a row. -/
theorem append_rw2 (w : World) (g n N : Nat) (cs : Array Value) (hr : Rw w g N cs) (hn : n ≤ N) (hN : N ≤ maxLen) (hn' : n ≤ 1000) (ty : TypeId) :
    ∃ v' w' cs', (Builtin.append_ #[35, 35] ty #[.slice (some ⟨g, 0, none⟩) n N, .slice (some ⟨w.heap.size, 0, none⟩) 1 1]).run Tryz.prog (w.alloc (.cells #[.int .u32 61166] 128)) = .ok v' w' ∧ w.grownBy w' (some g) ∧ Rw w' g N cs' := by
  obtain ⟨i, hi, hz, hs, hb⟩ := info_limb'
  have ha := World.grownBy_alloc w (.cells #[.int .u32 61166] 128) (some g)
  have hr' : Rw (w.alloc (.cells #[.int .u32 61166] 128)) g N cs := ⟨(Below.heap_alloc w _ g hr.lt).trans hr.1, hr.2⟩
  have hown : (w.alloc (.cells #[.int .u32 61166] 128)).ownsRow g 128 1 (.slice (some ⟨g, 0, none⟩) n N) n (cs.toList.take n) := ⟨by rw [List.length_take, Array.length_toList, hr.2]; omega, .inr ⟨g, N, cs, rfl, Nat.le_refl _, hr'.1, hn, hN, by rw [hr.2]; omega, by rw [Nat.mul_one]⟩⟩
  have hnew : ∀ j u, ([.int .u32 61166] : List Value)[j]? = some u → (w.alloc (.cells #[.int .u32 61166] 128)).cell? ((⟨w.heap.size, 0, none⟩ : Addr).add j) = some u := by
    intro j u hu
    rcases j with _ | j
    · simp at hu
      subst hu
      show (w.alloc _).cell? ⟨w.heap.size, 0, none⟩ = _
      rw [World.cell?_alloc_at _ _ _ _ rfl]
      rfl
    · simp at hu
  by_cases hroom : n + 1 ≤ N
  · obtain ⟨w', hrun, ho, hg⟩ := run_append_fits (P := Tryz.prog) (w.alloc (.cells #[.int .u32 61166] 128)) g 35 ty 128 i 1 und_limbs hi hs g n N (cs.toList.take n) hown ⟨w.heap.size, 0, none⟩ 1 1 [.int .u32 61166] rfl hnew (by intro u hu; simp at hu; subst hu; rfl) hroom
    rcases ho.2 with ⟨h0, _⟩ | ⟨g', cap, cur, hv, _, hg', _, _, hz', _⟩
    · cases h0
    · cases hv
      exact ⟨_, w', cur, hrun, grown_tr ha hg, hg', by rw [hz', Nat.mul_one]⟩
  · obtain ⟨v', w', hrun, _, hg⟩ := run_append_arg_grows (P := Tryz.prog) (w.alloc (.cells #[.int .u32 61166] 128)) 35 ty 128 i (.int .u32 0) 1 4 und_limbs hi hz hs hb rfl (by decide) ⟨g, 0, none⟩ n N (cs.toList.take n) hown.1 (fun j u hu => by
        have hj : j < n := by
          have := (List.getElem?_eq_some_iff.1 hu).1
          rw [List.length_take] at this
          omega
        rw [List.getElem?_take_of_lt hj] at hu
        rw [add_none, Nat.zero_add, hr'.cell, ← Array.getElem?_toList]
        exact hu) ⟨w.heap.size, 0, none⟩ 1 1 [.int .u32 61166] rfl hnew (by omega) (by unfold maxLen; omega) (by omega)
    have hg2 : (w.alloc (.cells #[.int .u32 61166] 128)).grownBy w' (some g) := ⟨hg.os, hg.tape, hg.output, hg.size, fun k hk _ => hg.block k hk (by simp)⟩
    exact ⟨v', w', cs, hrun, grown_tr ha hg2, (hg.block g hr'.lt (by simp)).trans hr'.1, hr.2⟩

set_option maxRecDepth 100000 in
set_option maxHeartbeats 1000000 in
theorem overL_some (w : World) (g n c : Nat) (cs0 : Array Value) (h : Rw w g c cs0) (hnc : n ≤ c) (hc : c ≤ maxLen) (hn : n ≤ 1000) :
    Calls Tryz.prog 42 #[.slice (some ⟨g, 0, none⟩) n c] w fun e w' => e = .returned (.tuple #[]) ∧ w.grownBy w' (some g) ∧ ∃ cs, Rw w' g c cs := by
  go_enter Tryz.func42, Tryz.ntmps42
  go_wp2
  go_loopw [2] (fun i w' => ∃ (j : Nat) (cs : Array Value), j ≤ n ∧ i = .int .i64 (j : Int) ∧ Rw w' g c cs ∧ w.grownBy w' (some g)) (fun i _ => n - (intOf i).toNat)
  case atStart => exact ⟨0, cs0, by omega, rfl, h, World.grownBy.refl _ _⟩
  case round =>
    obtain ⟨j, cs, hj, rfl, hRw, hgr⟩ := hrel
    by_cases h3 : j < n
    · obtain ⟨u, hu⟩ := hRw.some (i := j) (by omega)
      have hf := hRw.fz j
      go_wp2
      exact ⟨⟨j + 1, _, by omega, by go_num, hRw.set j _, grown_set hgr⟩, by simp [intOf]; omega⟩
    · obtain ⟨v', w1, c1, hrun, hg1, hr1⟩ := append_rw2 wr g n c cs hRw hnc hc hn 35
      have hR := Lib.hid hrun
      clear hrun
      go_wp2_with (at_builtin; refine wpList_append_run rfl _ _ _ rfl _ _ _ rfl rfl hR.out ?_)
      go_end0
      exact ⟨rfl, grown_tr hgr hg1, c1, hr1⟩
set_option maxRecDepth 100000 in
theorem overL_any {S : Nat → Prop} (w : World) (r : TR) (hn : r.ln ≤ 1000) (hl : (r.ln = 0 ∧ r.A = none ∧ r.lc = 0) ∨ ∃ g cs, S g ∧ r.A = some ⟨g, 0, none⟩ ∧ Rw w g r.lc cs ∧ r.ln ≤ r.lc ∧ r.lc ≤ maxLen) :
    Calls Tryz.prog 42 #[.slice r.A r.ln r.lc] w fun e w' => e = .returned (.tuple #[]) ∧ Ovr S w w' := by
  rcases hl with ⟨h1, h2, h3⟩ | ⟨g, cs, hs, hA, hr, h1, h2⟩
  · rw [h1, h2, h3]
    refine (over_none w 0 rfl).mono ?_
    rintro e w' ⟨he, hg⟩
    exact ⟨he, Ovr.of_below ((Below.refl _ _).grown hg (Nat.le_refl _) (by simp))⟩
  · rw [hA]
    refine (overL_some w g r.ln r.lc cs hr h1 h2 hn).mono ?_
    rintro e w' ⟨he, hg, cs', hr'⟩
    exact ⟨he, Ovr.limbs hg hs hr hr'⟩
end Go.Proofs.YtejmmjedognaaaaGreat
