/-
  THE LAWS ON ARENAS: acts and ints that came in; what stands while ArenaScript goes on.
-/
import Derived.Test.YtmgikdkcdihdlaaAnI
import Derived.OpenShut
import Derived.ProofKit
import Derived.Lib.SmallJoins
namespace Go.Proofs.Ytmgikdkcdihdlaa
open Go.RowKit Go.ChangeShapes Go.WideShapes
namespace An

/-- An act. -/
structure Act2 where
  k : Int
  n : Int
def Act2.zero : Act2 := ⟨0, 0⟩
instance : Inhabited Act2 := ⟨Act2.zero⟩
def Act2.cells (a : Act2) : List Value := [.int .i64 a.k, .int .i64 a.n]
def ag (l : List Act2) (i : Nat) : Act2 := l.getD i Act2.zero
/-- Acts that came in. -/
structure Acs (w : World) (B : Option Addr) (m c : Nat) (l : List Act2) : Prop where
  len : l.length = m
  mc : m ≤ c
  cm : c ≤ maxLen
  wf : ∀ i, i < m → (Lit.int .i64 (ag l i).n).wf = true
  cl : 0 < m → ∃ b o, B = some ⟨b, o, none⟩ ∧ b < w.heap.size ∧ ∀ i, i < m → ∀ j, j < 2 → w.cell? ⟨b, o + i * 2 + j, none⟩ = (ag l i).cells[j]?
set_option maxRecDepth 100000 in
theorem Acs.at {w : World} {b o : Nat} {m c : Nat} {l : List Act2} (h : Acs w (some ⟨b, o, none⟩) m c l) {i : Nat} (hi : i < m) :
    w.cell? ⟨b, o + i * 2, none⟩ = some (.int .i64 (ag l i).k) ∧ w.cell? ⟨b, o + i * 2 + 1, none⟩ = some (.int .i64 (ag l i).n) := by
  obtain ⟨b', o', e, _, hc⟩ := h.cl (by omega)
  cases e
  exact ⟨hc i hi 0 (by omega), hc i hi 1 (by omega)⟩
set_option maxRecDepth 100000 in
theorem Acs.some {w : World} {B : Option Addr} {m c : Nat} {l : List Act2} (h : Acs w B m c l) (hm : 0 < m) : ∃ b o, B = Option.some ⟨b, o, none⟩ ∧ b < w.heap.size := by
  obtain ⟨b, o, e, hb, _⟩ := h.cl hm
  exact ⟨b, o, e, hb⟩
set_option maxRecDepth 100000 in
theorem Acs.below {w w' : World} {B : Option Addr} {m c : Nat} {l : List Act2} (h : Acs w B m c l) (hb : Below w.heap.size w w') : Acs w' B m c l := by
  refine ⟨h.len, h.mc, h.cm, h.wf, fun hm => ?_⟩
  obtain ⟨b, o, e, hlt, hc⟩ := h.cl hm
  exact ⟨b, o, e, Nat.lt_of_lt_of_le hlt hb.size, fun i hi j hj => (hb.cell (p := ⟨b, o + i * 2 + j, none⟩) hlt).trans (hc i hi j hj)⟩

set_option maxRecDepth 100000 in
theorem addN (b o : Nat) (j : Nat) : (⟨b, o, none⟩ : Addr).add j = ⟨b, o + j, none⟩ := by unfold Addr.add; split <;> simp_all
set_option maxRecDepth 100000 in
theorem cells_act : Try.prog.cellsOf 29 = 2 := by kernel_rfl
set_option maxRecDepth 100000 in
theorem cells_i1 : Try.prog.cellsOf 3 = 1 := by kernel_rfl
set_option maxRecDepth 100000 in
theorem list2 {α : Type} {cs : List α} (h : cs.length = 2) : ∃ c0 c1, cs = [c0, c1] := by
  match cs, h with
  | [c0, c1], _ => exact ⟨c0, c1, rfl⟩

set_option maxRecDepth 100000 in
theorem open_act {H : Type} {enc : TypeId × Value → H} {W : World} (fuel : Nat) (cs : List Value) (x : DataW H × List MemPlace)
    (h : DataW.trod enc Try.prog W 0 (fun _ => true) true fuel 29 cs = some x) : ∃ a : Act2, cs = a.cells ∧ (Lit.int .i64 a.n).wf = true := by
  obtain ⟨xs, n, hfu, _, hcl, hxl, hf⟩ := DataW.trod_struct Try.underlying29 h
  rw [cells_act] at hcl
  obtain ⟨c0, c1, rfl⟩ := list2 hcl
  have get : ∀ i, i < 2 → ∃ y, xs[i]? = some y := fun i hi => ⟨_, List.getElem?_eq_getElem (by rw [hxl]; exact hi)⟩
  have f0 : DataW.trod enc Try.prog W 0 (fun _ => true) true n 3 [c0] = xs[0]? := by simpa [cells_i1] using hf 0 _ rfl
  have f1 : DataW.trod enc Try.prog W 0 (fun _ => true) true n 3 [c1] = xs[1]? := by simpa [cells_i1] using hf 1 _ rfl
  obtain ⟨y0, e0⟩ := get 0 (by omega)
  obtain ⟨y1, e1⟩ := get 1 (by omega)
  rw [e0] at f0; rw [e1] at f1
  obtain ⟨k, q0, _, _⟩ := DataW.trod_int Try.underlying3 f0
  obtain ⟨m, q1, _, hw⟩ := DataW.trod_int Try.underlying3 f1
  simp only [List.cons.injEq, and_true] at q0 q1
  subst q0 q1
  exact ⟨⟨k, m⟩, rfl, hw⟩
set_option maxRecDepth 100000 in
set_option maxRecDepth 100000 in
theorem open_acts {H : Type} {enc : TypeId × Value → H} {W : World} {v : Value} {d : DataW H} {p : List MemPlace}
    (hv : ∃ a n c, v = .slice a n c) (h : DataW.Trod enc Try.prog W 0 (fun _ => true) true 22 v d p) :
    ∃ (B : Option Addr) (m c : Nat) (l : List Act2), v = .slice B m c ∧ Acs W B m c l := by
  obtain ⟨a, n, c, rfl⟩ := hv
  obtain ⟨fuel, hf⟩ := h
  have hf' : DataW.trod enc Try.prog W 0 (fun _ => true) true fuel 22 [.slice a n c] = some (d, p) := by simpa [Value.cells] using hf
  rcases DataW.trod_slice Try.underlying22 hf' with ⟨h0, _⟩ | ⟨a, len, cap, elems, rest, n', hfu, hcs, _, hb, hl, hm, hlen, hel, _, _⟩
  · simp only [List.cons.injEq, and_true] at h0
    cases h0
    exact ⟨none, 0, 0, [], rfl, rfl, Nat.le_refl _, Nat.zero_le _, fun i hi => by omega, fun h => by omega⟩
  · simp only [List.cons.injEq, and_true] at hcs
    cases hcs
    rw [cells_act] at hel
    have each : ∀ i, i < n → ∃ y : Act2, (∀ j, j < 2 → W.cell? ((a.add (i * 2)).add j) = y.cells[j]?) ∧ (Lit.int .i64 y.n).wf = true := fun i hi => by
      have h1 := hel i hi
      rw [List.getElem?_eq_getElem (by omega)] at h1
      obtain ⟨cs', h2, h3⟩ := Option.bind_eq_some_iff.1 h1
      obtain ⟨y, rfl, hy⟩ := open_act n' cs' _ h3
      obtain ⟨_, _, h4⟩ := World.cells?_some h2
      exact ⟨y, h4, hy⟩
    obtain ⟨F, hF⟩ := Go.Deep.choose_lt (α := Act2) each
    have hag : ∀ i, i < n → ag ((List.range n).map F) i = F i := fun i hi => by simp [ag, hi]
    refine ⟨some a, n, c, (List.range n).map F, rfl, by simp, hl, hm, fun i hi => by rw [hag i hi]; exact (hF i hi).2, fun hn => ?_⟩
    have h0 := (hF 0 hn).1 0 (by omega)
    have h0' : W.cell? ((a.add (0 * 2)).add 0) = some (.int .i64 (F 0).k) := h0
    have hspot : a.spot = none := by
      have := World.cell?_spot h0'
      simpa [Addr.add] using this
    obtain ⟨b, o, sp⟩ := a
    simp only at hspot
    subst hspot
    refine ⟨b, o, rfl, ?_, fun i hi j hj => ?_⟩
    · have := World.block_lt_of_cell? W _ h0'
      rw [addN, addN] at this
      exact this
    · have := (hF i hi).1 j hj
      rw [addN, addN] at this
      rw [hag i hi]
      exact this
end An
open An

/-- Both arenas, apart from each other. -/
structure AsI (W : World) (S b R : Nat) (s : Ars) (w : World) : Prop where
  a : Arn w S b s
  r : Rar w R s
  hS : W.heap.size ≤ S
  hb : W.heap.size ≤ b
  hR : W.heap.size ≤ R
  be : Below W.heap.size W w
namespace AsI
variable {W w w' : World} {S b R : Nat} {s s' : Ars}
set_option maxRecDepth 100000 in
theorem neS (ha : Arn w S b s) (hr : Rar w R s') : R ≠ S ∧ R ≠ b := by
  obtain ⟨A, c, hr⟩ := hr
  have h1 := hr.blk
  refine ⟨?_, ?_⟩
  · rintro rfl
    rw [ha.blk] at h1
    injection h1 with h1
    injection h1 with _ h1
    exact absurd h1 (by decide)
  · rintro rfl
    obtain ⟨es, clock, hb⟩ := ha.map.is
    rw [hb] at h1
    cases h1
set_option maxRecDepth 100000 in
theorem drewN (h : AsI W S b R s w) (q : Nat) : AsI W S b R s (w.drewN q) := ⟨h.a.drewN q, h.r.drewN q, h.hS, h.hb, h.hR, ⟨h.be.os, h.be.tape, h.be.output, h.be.size, h.be.block⟩⟩
set_option maxRecDepth 100000 in
theorem below (h : AsI W S b R s w) (hb : Below w.heap.size w w') : AsI W S b R s w' := ⟨h.a.below hb, h.r.below hb, h.hS, h.hb, h.hR, h.be.trans (hb.mono h.be.size)⟩
end AsI
/-- The program's arena has turned, the reference's not yet. -/
structure AsH (W : World) (S b R : Nat) (s s' : Ars) (w : World) : Prop where
  a : Arn w S b s'
  r : Rar w R s
  hS : W.heap.size ≤ S
  hb : W.heap.size ≤ b
  hR : W.heap.size ≤ R
  be : Below W.heap.size W w
set_option maxRecDepth 100000 in
theorem AsI.one {W w w' : World} {S b R : Nat} {s s' : Ars} (h : AsI W S b R s w) (hp : AnP w S b s' w') : AsH W S b R s s' w' := by
  obtain ⟨h1, h2⟩ := hp
  obtain ⟨n1, n2⟩ := AsI.neS h.a h.r
  obtain ⟨A, c, hr⟩ := h.r
  refine ⟨h1, ⟨A, c, hr.chg h2 ?_ ?_⟩, h.hS, h.hb, h.hR, h.be.trans (h2.toBelow (fun k hk => by rcases hk with rfl | rfl; exact h.hS; exact h.hb) h.be.size)⟩
  · rintro (e | e)
    · exact n1 e
    · exact n2 e
  · rintro k hk (rfl | rfl)
    · obtain ⟨cur, hg⟩ := hr.row.ty hk
      rw [h.a.blk] at hg
      injection hg with hg
      injection hg with _ hg
      exact absurd hg (by decide)
    · obtain ⟨cur, hg⟩ := hr.row.ty hk
      obtain ⟨es, clock, hb⟩ := h.a.map.is
      rw [hb] at hg
      cases hg
set_option maxRecDepth 100000 in
theorem AsH.drewN {W w : World} {S b R : Nat} {s s' : Ars} (h : AsH W S b R s s' w) (q : Nat) : AsH W S b R s s' (w.drewN q) := ⟨h.a.drewN q, h.r.drewN q, h.hS, h.hb, h.hR, ⟨h.be.os, h.be.tape, h.be.output, h.be.size, h.be.block⟩⟩
set_option maxRecDepth 100000 in
theorem AsH.two {W w w' : World} {S b R : Nat} {s s' : Ars} (h : AsH W S b R s s' w) (hp : RaP w R s' w') : AsI W S b R s' w' := by
  obtain ⟨h1, h2⟩ := hp
  obtain ⟨n1, n2⟩ := AsI.neS h.a h.r
  exact ⟨h.a.keep h2 (fun e => n1 e.symm) (fun e => n2 e.symm), h1, h.hS, h.hb, h.hR, h.be.trans (h2.toBelow (fun k hk => by rw [hk]; exact h.hR) h.be.size)⟩

/-- What both arenas are behind an act. -/
def nextA (s : Ars) (a : Act2) : Ars :=
  if a.k = 0 then takeS s a.n else if a.k = 1 then giveS s a.n else if a.k = 2 then chargeS s a.n else if a.k = 3 then backS s a.n else s
set_option maxRecDepth 100000 in
theorem nextA_ok {T : Int} {s : Ars} (h : Ok T s) (a : Act2) : Ok (T + 1) (nextA s a) := by
  unfold nextA
  split
  · exact h.take a.n
  · split
    · exact (h.give a.n).mono (by omega)
    · split
      · exact h.charge a.n
      · split
        · exact (h.back a.n).mono (by omega)
        · exact h.mono (by omega)
end Go.Proofs.Ytmgikdkcdihdlaa
