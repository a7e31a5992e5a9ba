/-
  PACKAGE wire: the decoder's whole; Read's deferred function.
  PACKAGE wire: Read.
  WHAT EVERY PROGRAM ANSWERS THAT IS ONE: awake of beehivelaw7.
-/
import Derived.Test.YtomohdfcggghoaaJ10
import Derived.Recover
import Derived.Defers
import Derived.Laws.Pointers
import Derived.Test.YtomohdfcggghoaaJ9
import Derived.Test.YtomohdfcggghoaaJ8
namespace Go.Proofs.Ytomohdfcggghoaa
open Go.RowKit

/-- A term that was read, if it may be. -/
def Wr.wo (x : Option (Tm × Nat × Nat)) : Option (Tm × Nat × Nat) :=
  match x with
  | none => none
  | some (t, q, a) => if t.mayB = true then some (t, q, a) else none

set_option maxRecDepth 100000 in
set_option maxHeartbeats 2000000 in
theorem whole7_any (g : Nat) (A : Option Addr) (n c : Nat) (B : List Nat) (w : World) (a p : Nat) (hp : p ≤ 300) (h : Ds w g A n c B a p) :
    Calls Try.prog 27 #[.pointer (some ⟨g, 0, none⟩)] w (TrP w g A n c B (Wr.wo (Wr.dec true B 300 p a))) := by
  have hglt := h.bx.lt
  have hBs := h.by'.2.2.1
  have h0 := h.alloc (.cells #[.int .i64 zeroR.k, .int .i64 zeroR.n, .bool zeroR.g, .slice zeroR.A zeroR.ln zeroR.lc, .int .u64 zeroR.u, .string zeroR.s, .slice zeroR.B zeroR.m zeroR.d] 28)
  have g0 := World.grownBy_alloc w (.cells #[.int .i64 zeroR.k, .int .i64 zeroR.n, .bool zeroR.g, .slice zeroR.A zeroR.ln zeroR.lc, .int .u64 zeroR.u, .string zeroR.s, .slice zeroR.B zeroR.m zeroR.d] 28) (some g)
  have K0 := Box7.new w zeroR
  have s0 : (w.alloc (.cells #[.int .i64 zeroR.k, .int .i64 zeroR.n, .bool zeroR.g, .slice zeroR.A zeroR.ln zeroR.lc, .int .u64 zeroR.u, .string zeroR.s, .slice zeroR.B zeroR.m zeroR.d] 28)).heap.size = w.heap.size + 1 := by simp
  go_enter Try.func27, Try.ntmps27
  go_wp2_with fail
  generalize w.alloc (.cells #[.int .i64 zeroR.k, .int .i64 zeroR.n, .bool zeroR.g, .slice zeroR.A zeroR.ln zeroR.lc, .int .u64 zeroR.u, .string zeroR.s, .slice zeroR.B zeroR.m zeroR.d] 28) = W at *
  have Q := term7_any 300 (by omega) g A n c B W a p hp h0
  (with_reducible refine Q.mono ?_)
  clear Q
  cases hx : Wr.dec true B 300 p a with
  | none =>
    rintro e w1 ⟨rfl, hg⟩
    go_wp2
    exact ⟨rfl, rfl, grown_tr g0 hg⟩
  | some y =>
    obtain ⟨t, q, a1⟩ := y
    have hok := (Wr.dec_back hBs _ _ _ _ _ _ hx).2.2.2.1.1
    rintro e w1 ⟨R, rfl, tv, d1, hg1⟩
    have K1 : Box7 w1 w.heap.size zeroR := blk_keep K0 hg1 (by omega)
    have g1 := grown_tr g0 hg1
    have s1 := hg1.size
    have bz := Box7.new w1 R
    have tv2 := tv.keep ((Keeps.refl _ w1).alloc (.cells #[.int .i64 R.k, .int .i64 R.n, .bool R.g, .slice R.A R.ln R.lc, .int .u64 R.u, .string R.s, .slice R.B R.m R.d] 28))
    have d2 := d1.alloc (.cells #[.int .i64 R.k, .int .i64 R.n, .bool R.g, .slice R.A R.ln R.lc, .int .u64 R.u, .string R.s, .slice R.B R.m R.d] 28)
    have g2 := grown_tr g1 (World.grownBy_alloc w1 (.cells #[.int .i64 R.k, .int .i64 R.n, .bool R.g, .slice R.A R.ln R.lc, .int .u64 R.u, .string R.s, .slice R.B R.m R.d] 28) (some g))
    have K2 : Box7 (w1.alloc (.cells #[.int .i64 R.k, .int .i64 R.n, .bool R.g, .slice R.A R.ln R.lc, .int .u64 R.u, .string R.s, .slice R.B R.m R.d] 28)) w.heap.size zeroR := blk_keep K1 (World.grownBy_alloc w1 _ (some g)) (by omega)
    clear K0 K1 g0 g1 h0 hg1 tv d1
    go_wp2_with fail
    generalize w1.alloc (.cells #[.int .i64 R.k, .int .i64 R.n, .bool R.g, .slice R.A R.ln R.lc, .int .u64 R.u, .string R.s, .slice R.B R.m R.d] 28) = W2 at *
    have Q := mayTerm_any W2 R t tv2.tv hok
    (with_reducible refine Q.mono ?_)
    clear Q
    cases hm : t.mayB with
    | false =>
      rintro e w3 ⟨rfl, hb3⟩
      have e : Wr.wo (some (t, q, a1)) = none := by unfold Wr.wo; simp [hm]
      rw [e]
      go_wp2
      refine ⟨rfl, rfl, ?_⟩
      exact ⟨hb3.os.trans g2.os, hb3.tape.trans g2.tape, hb3.output.trans g2.output, Nat.le_trans g2.size hb3.size, fun k hk hne => (hb3.block k (Nat.lt_of_lt_of_le hk g2.size)).trans (g2.block k hk hne)⟩
    | true =>
      rintro e w3 ⟨rfl, hb3⟩
      have e : Wr.wo (some (t, q, a1)) = some (t, q, a1) := by unfold Wr.wo; simp [hm]
      rw [e]
      have gb : W2.grownBy w3 (some g) := ⟨hb3.os, hb3.tape, hb3.output, hb3.size, fun k hk _ => hb3.block k hk⟩
      have g3 := grown_tr g2 gb
      have d3 := d2.next gb (d2.bx.keep (hb3.block g d2.bx.lt)) d2.le
      have K3 := K2.below hb3
      have b3 := bz.below hb3
      have tv3 := tv2.keep (hb3.keeps _)
      clear K2 bz d2 g2 tv2 gb
      have y0 := b3.at.c0; have y1 := b3.at.c1; have y2 := b3.at.c2; have y3 := b3.at.c3; have y4 := b3.at.c4; have y5 := b3.at.c5; have y6 := b3.at.c6
      have f0 := K3.frozen 0; have f1 := K3.frozen 1; have f2 := K3.frozen 2; have f3 := K3.frozen 3; have f4 := K3.frozen 4; have f5 := K3.frozen 5; have f6 := K3.frozen 6
      have z0 := K3.at.c0; have z1 := K3.at.c1; have z2 := K3.at.c2; have z3 := K3.at.c3; have z4 := K3.at.c4; have z5 := K3.at.c5; have z6 := K3.at.c6
      go_wp2
      have C := (K3.put R).at
      have G5 : w.grownBy (put7 w3 w.heap.size R) (some g) := grown_any (grown_any (grown_any (grown_any (grown_any (grown_any (grown_any g3 0 _ (Nat.le_refl _)) 1 _ (Nat.le_refl _)) 2 _ (Nat.le_refl _)) 3 _ (Nat.le_refl _)) 4 _ (Nat.le_refl _)) 5 _ (Nat.le_refl _)) 6 _ (Nat.le_refl _)
      have hwg : w.heap.size ≠ g := by omega
      by_cases hn0 : 0 < n
      · have hav2 : 0 < n → Av A w.heap.size := h.by'.blk (Nat.le_refl _)
        have D5 : Ds (put7 w3 w.heap.size R) g A n c B a1 q := ((((((d3.setO hwg hav2 0 _).setO hwg hav2 1 _).setO hwg hav2 2 _).setO hwg hav2 3 _).setO hwg hav2 4 _).setO hwg hav2 5 _).setO hwg hav2 6 _
        have T5 := (tv3.keep ((Keeps.refl _ w3).put7 (g := w.heap.size) (by omega) R)).mono (S' := fun b => w.heap.size ≤ b) (fun b hb => by omega)
        clear y0 y1 y2 y3 y4 y5 y6 f0 f1 f2 f3 f4 f5 f6 z0 z1 z2 z3 z4 z5 z6
        have y0 := C.c0; have y1 := C.c1; have y2 := C.c2; have y3 := C.c3; have y4 := C.c4; have y5 := C.c5; have y6 := C.c6
        clear C
        change bodyPost _ _ _ _ _ (put7 w3 w.heap.size R)
        generalize put7 w3 w.heap.size R = W5 at *
        refine bodyPost_ret (v := .agg #[.int .i64 R.k, .int .i64 R.n, .bool R.g, .slice R.A R.ln R.lc, .int .u64 R.u, .string R.s, .slice R.B R.m R.d]) (by simp [results, Try.results27, go_sem, y0, y1, y2, y3, y4, y5, y6]) rfl ?_
        show TrP w g A n c B (Wr.wo (Wr.dec true B 300 p a)) _ _
        rw [hx, e]
        exact ⟨R, rfl, T5, D5, G5⟩
      · exfalso
        have hl : B.length = n := h.by'.1
        rw [Wr.dec, if_pos (.inr (by omega))] at hx
        cases hx

set_option maxRecDepth 100000 in
theorem assert_fail7 (W : World) (xT : TypeId) (v : Value) : (Instr.typeAssert (.iface 51 v) xT 51 true).run Try.prog W = .ok (.tuple #[v, .bool true]) W := by kernel_rfl

set_option maxRecDepth 100000 in
theorem catch7_idle (p q o : Addr) (w : World) :
    CallsD Try.prog 26 #[.pointer (some p), .pointer (some q), .pointer (some o)] .returning w fun e u' w' => e = .returned (.tuple #[]) ∧ u' = .returning ∧ w' = w := by
  refine callsD_of_wpS Try.func26 rfl fun c₀ cs hu => ?_
  apply wpS_seq
  apply wpS_region
  simp [wpOpsS, go_sem, recoverD, hu, Try.ntmps26, Exit.thenS]
  refine wpS_of_wp ?_
  simp only [Array.replicate, List.replicate]
  go_wp2
  cases c₀
  simp_all [bodyPostS, results, Try.results26]

set_option maxRecDepth 100000 in
set_option maxHeartbeats 4000000 in
theorem catch7_bad (g g' g'' : Nat) (R : TR) (x : Int) (b : Bool) (v : Value) (older : List PanicEntry) (w : World) (h : Box7 w g R) (hc : w.cell? ⟨g', 0, none⟩ = some (.int .i64 x)) (hz : w.frozen? ⟨g', 0, none⟩ = false) (hc' : w.cell? ⟨g'', 0, none⟩ = some (.bool b)) (hz' : w.frozen? ⟨g'', 0, none⟩ = false) (hn : g ≠ g') (hn' : g ≠ g'') (hn2 : g' ≠ g'') :
    CallsD Try.prog 26 #[.pointer (some ⟨g, 0, none⟩), .pointer (some ⟨g', 0, none⟩), .pointer (some ⟨g'', 0, none⟩)] (.panicking ({ v := .iface 51 v, recovered := false } :: older)) w fun e u' w' =>
      e = .returned (.tuple #[]) ∧ u' = .panicking ({ v := .iface 51 v, recovered := true } :: older) ∧ w' = ((put7 w g zeroR).setCell ⟨g', 0, none⟩ (.int .i64 0)).setCell ⟨g'', 0, none⟩ (.bool false) := by
  have f0 := h.frozen 0; have f1 := h.frozen 1; have f2 := h.frozen 2; have f3 := h.frozen 3; have f4 := h.frozen 4; have f5 := h.frozen 5; have f6 := h.frozen 6
  have y0 := h.at.c0; have y1 := h.at.c1; have y2 := h.at.c2; have y3 := h.at.c3; have y4 := h.at.c4; have y5 := h.at.c5; have y6 := h.at.c6
  have hta := assert_fail7
  refine callsD_of_wpS Try.func26 rfl fun c₀ cs hu => ?_
  apply wpS_seq
  apply wpS_region
  simp [wpOpsS, go_sem, recoverD, hu, Try.ntmps26, Exit.thenS]
  refine wpS_of_wp ?_
  simp only [Array.replicate, List.replicate]
  go_wp2
  exact ⟨rfl, _, rfl, _, by simp [results, Try.results26], rfl, rfl, rfl⟩
end Go.Proofs.Ytomohdfcggghoaa

namespace Go.Proofs.Ytomohdfcggghoaa
open Go.RowKit

/-- A variable of one cell. -/
def Bx1 (T : TypeId) (w : World) (g : Nat) (x : Value) : Prop := w.heap[g]? = some (.cells #[x] T (0, 0))
section
variable {T : TypeId} {w w' : World} {g : Nat} {x : Value}
set_option maxRecDepth 100000 in
theorem Bx1.lt (h : Bx1 T w g x) : g < w.heap.size := (Array.getElem?_eq_some_iff.1 h).1
set_option maxRecDepth 100000 in
theorem Bx1.c0 (h : Bx1 T w g x) : w.cell? ⟨g, 0, none⟩ = some x := by rw [cell_of_row w g 0 #[x] _ (0, 0) h]; rfl
set_option maxRecDepth 100000 in
theorem Bx1.f0 (h : Bx1 T w g x) : w.frozen? ⟨g, 0, none⟩ = false := by unfold Bx1 at h; simp [World.frozen?, h]
set_option maxRecDepth 100000 in
theorem Bx1.set (h : Bx1 T w g x) (u : Value) : Bx1 T (w.setCell ⟨g, 0, none⟩ u) g u := by
  unfold Bx1 at h ⊢
  simp [World.setCell, Array.getElem?_modify, h]
set_option maxRecDepth 100000 in
theorem Bx1.drew (h : Bx1 T w g x) : Bx1 T w.drew g x := h
set_option maxRecDepth 100000 in
theorem Bx1.far (h : Bx1 T w g x) {b i : Nat} (hn : g ≠ b) (u : Value) : Bx1 T (w.setCell ⟨b, i, none⟩ u) g x := blk_set h hn i u
set_option maxRecDepth 100000 in
theorem Bx1.put7 (h : Bx1 T w g x) {b : Nat} (hn : g ≠ b) (R : TR) : Bx1 T (put7 w b R) g x :=
  ((((((h.far hn _).far hn _).far hn _).far hn _).far hn _).far hn _).far hn _
end

/-- What Read answers of any place. -/
def Wr.rdO (B : List Nat) (z : Int) : Option (Tm × Nat) := if z < 0 then none else Wr.readO true B z.toNat
/-- What Read leaves. -/
def RdP (w : World) (x : Option (Tm × Nat)) (e : Ending) (w' : World) : Prop :=
  match x with
  | none => e = .returned (.tuple #[.agg #[.int .i64 zeroR.k, .int .i64 zeroR.n, .bool zeroR.g, .slice zeroR.A zeroR.ln zeroR.lc, .int .u64 zeroR.u, .string zeroR.s, .slice zeroR.B zeroR.m zeroR.d], .int .i64 0, .bool false]) ∧ Below w.heap.size w w'
  | some (t, a) => ∃ R : TR, e = .returned (.tuple #[.agg #[.int .i64 R.k, .int .i64 R.n, .bool R.g, .slice R.A R.ln R.lc, .int .u64 R.u, .string R.s, .slice R.B R.m R.d], .int .i64 (a : Int), .bool true]) ∧ TVS (fun b => w.heap.size ≤ b) w' R t ∧ Below w.heap.size w w'

/-- The results' variables. -/
structure Rv (w : World) (W : World) : Prop where
  t : Box7 W w.heap.size zeroR
  n : Bx1 3 W (w.heap.size + 1) (.int .i64 0)
  o : Bx1 4 W (w.heap.size + 1 + 1) (.bool false)
  be : Below w.heap.size w W
set_option maxRecDepth 100000 in
theorem Rv.new (w : World) : Rv w (((w.alloc (.cells #[.int .i64 zeroR.k, .int .i64 zeroR.n, .bool zeroR.g, .slice zeroR.A zeroR.ln zeroR.lc, .int .u64 zeroR.u, .string zeroR.s, .slice zeroR.B zeroR.m zeroR.d] 28)).alloc (.cells #[.int .i64 0] 3)).alloc (.cells #[.bool false] 4)) := by
  refine ⟨?_, ?_, ?_, ?_⟩
  · exact ((Box7.new w zeroR).below ((Below.refl _ _).alloc (Nat.le_refl _) _)).below ((Below.refl _ _).alloc (Nat.le_refl _) _)
  · have h : Bx1 3 ((w.alloc (.cells #[.int .i64 zeroR.k, .int .i64 zeroR.n, .bool zeroR.g, .slice zeroR.A zeroR.ln zeroR.lc, .int .u64 zeroR.u, .string zeroR.s, .slice zeroR.B zeroR.m zeroR.d] 28)).alloc (.cells #[.int .i64 0] 3)) (w.heap.size + 1) (.int .i64 0) := by
      have := heap_alloc_new (w.alloc (.cells #[.int .i64 zeroR.k, .int .i64 zeroR.n, .bool zeroR.g, .slice zeroR.A zeroR.ln zeroR.lc, .int .u64 zeroR.u, .string zeroR.s, .slice zeroR.B zeroR.m zeroR.d] 28)) (.cells #[.int .i64 0] 3)
      rw [World.size_alloc] at this
      exact this
    exact (Below.heap_alloc _ _ _ h.lt).trans h
  · have := heap_alloc_new ((w.alloc (.cells #[.int .i64 zeroR.k, .int .i64 zeroR.n, .bool zeroR.g, .slice zeroR.A zeroR.ln zeroR.lc, .int .u64 zeroR.u, .string zeroR.s, .slice zeroR.B zeroR.m zeroR.d] 28)).alloc (.cells #[.int .i64 0] 3)) (.cells #[.bool false] 4)
    rw [World.size_alloc, World.size_alloc] at this
    exact this
  · exact (((Below.refl w.heap.size w).alloc (Nat.le_refl _) _).alloc (by simp) _).alloc (by simp; omega) _
set_option maxRecDepth 100000 in
theorem Rv.grown {w W W' : World} {g : Nat} (h : Rv w W) (k : W.grownBy W' (some g)) (hg : w.heap.size + 3 ≤ g) : Rv w W' :=
  ⟨blk_keep h.t k (by omega), blk_keep h.n k (by omega), blk_keep h.o k (by omega), h.be.grown k h.be.size (fun b hb => by cases hb; omega)⟩

set_option maxRecDepth 100000 in
/-- What the deferred function leaves of them. -/
theorem Rv.end_ {w W : World} (h : Rv w W) : ∃ W', W' = ((put7 W w.heap.size zeroR).setCell ⟨w.heap.size + 1, 0, none⟩ (.int .i64 0)).setCell ⟨w.heap.size + 1 + 1, 0, none⟩ (.bool false) ∧ Rv w W' := by
  refine ⟨_, rfl, ?_, ?_, ?_, ?_⟩
  · exact ((h.t.put zeroR).setO (by omega) 0 _).setO (by omega) 0 _
  · exact ((h.n.put7 (by omega) zeroR).set _).far (by omega) _
  · exact ((h.o.put7 (by omega) zeroR).far (by omega) _).set _
  · exact ((h.be.put7 (g := w.heap.size) (by omega) zeroR).setCell (p := ⟨w.heap.size + 1, 0, none⟩) (by simp only; omega) _).setCell (p := ⟨w.heap.size + 1 + 1, 0, none⟩) (by simp only; omega) _

set_option maxRecDepth 100000 in
set_option maxHeartbeats 4000000 in
theorem read7_out (w : World) (A : Option Addr) (n c : Nat) (hn : n ≤ maxLen) (z : Int) (hz : z < 0 ∨ (n : Int) < z) :
    Calls Try.prog 15 #[.slice A n c, .int .i64 z] w (RdP w none) := by
  have hmf : ∀ (fn : Fn) (first cap : Array Value) (w : World), (Instr.makeFunc fn first cap).run Try.prog w = .ok (.func fn first cap) w := fun _ _ _ _ => rfl
  have V := Rv.new w
  unfold maxLen at hn
  go_enter_defers Try.func15, Try.ntmps15
  go_upto_region 2 with fail
  generalize ((w.alloc (.cells #[.int .i64 zeroR.k, .int .i64 zeroR.n, .bool zeroR.g, .slice zeroR.A zeroR.ln zeroR.lc, .int .u64 zeroR.u, .string zeroR.s, .slice zeroR.B zeroR.m zeroR.d] 28)).alloc (.cells #[.int .i64 0] 3)).alloc (.cells #[.bool false] 4) = W at *
  rcases hz with hz | hz
  · have hd : decide (z < 0) = true := decide_eq_true hz
    go_wp2
    refine leaves_cons (f := 26) (args := #[.pointer (some ⟨w.heap.size, 0, none⟩), .pointer (some ⟨w.heap.size + 1, 0, none⟩), .pointer (some ⟨w.heap.size + 1 + 1, 0, none⟩)]) (by simp) (by simp [go_sem]) ?_
    refine (catch7_bad w.heap.size (w.heap.size + 1) (w.heap.size + 1 + 1) zeroR 0 false (.string noTm) [] _ V.t V.n.c0 V.n.f0 V.o.c0 V.o.f0 (by omega) (by omega) (by omega)).mono ?_
    rintro e u' w'' ⟨rfl, rfl, rfl⟩
    obtain ⟨W', hW', V'⟩ := V.end_
    have y0 := V'.t.at.c0; have y1 := V'.t.at.c1; have y2 := V'.t.at.c2; have y3 := V'.t.at.c3; have y4 := V'.t.at.c4; have y5 := V'.t.at.c5; have y6 := V'.t.at.c6
    have yn := V'.n.c0
    have yo := V'.o.c0
    have bb := V'.be
    change Leaves _ _ _ _ _ _ (((put7 W w.heap.size zeroR).setCell ⟨w.heap.size + 1, 0, none⟩ (.int .i64 0)).setCell ⟨w.heap.size + 1 + 1, 0, none⟩ (.bool false))
    rw [← hW']
    exact ⟨.tuple #[.agg #[.int .i64 zeroR.k, .int .i64 zeroR.n, .bool zeroR.g, .slice zeroR.A zeroR.ln zeroR.lc, .int .u64 zeroR.u, .string zeroR.s, .slice zeroR.B zeroR.m zeroR.d], .int .i64 0, .bool false], by simp [results, Try.results15, go_sem, y0, y1, y2, y3, y4, y5, y6, yn, yo], rfl, bb⟩
  · have hd : decide (z < 0) = false := by rw [decide_eq_false_iff_not]; omega
    have hd2 : decide ((n : Int) < z) = true := decide_eq_true hz
    go_wp2
    refine leaves_cons (f := 26) (args := #[.pointer (some ⟨w.heap.size, 0, none⟩), .pointer (some ⟨w.heap.size + 1, 0, none⟩), .pointer (some ⟨w.heap.size + 1 + 1, 0, none⟩)]) (by simp) (by simp [go_sem]) ?_
    refine (catch7_bad w.heap.size (w.heap.size + 1) (w.heap.size + 1 + 1) zeroR 0 false (.string noTm) [] _ V.t V.n.c0 V.n.f0 V.o.c0 V.o.f0 (by omega) (by omega) (by omega)).mono ?_
    rintro e u' w'' ⟨rfl, rfl, rfl⟩
    obtain ⟨W', hW', V'⟩ := V.end_
    have y0 := V'.t.at.c0; have y1 := V'.t.at.c1; have y2 := V'.t.at.c2; have y3 := V'.t.at.c3; have y4 := V'.t.at.c4; have y5 := V'.t.at.c5; have y6 := V'.t.at.c6
    have yn := V'.n.c0
    have yo := V'.o.c0
    have bb := V'.be
    change Leaves _ _ _ _ _ _ (((put7 W w.heap.size zeroR).setCell ⟨w.heap.size + 1, 0, none⟩ (.int .i64 0)).setCell ⟨w.heap.size + 1 + 1, 0, none⟩ (.bool false))
    rw [← hW']
    exact ⟨.tuple #[.agg #[.int .i64 zeroR.k, .int .i64 zeroR.n, .bool zeroR.g, .slice zeroR.A zeroR.ln zeroR.lc, .int .u64 zeroR.u, .string zeroR.s, .slice zeroR.B zeroR.m zeroR.d], .int .i64 0, .bool false], by simp [results, Try.results15, go_sem, y0, y1, y2, y3, y4, y5, y6, yn, yo], rfl, bb⟩

set_option maxRecDepth 100000 in
theorem Rv.dec {w W : World} (h : Rv w W) (A : Option Addr) (n c a p : Nat) : Rv w (W.alloc (.cells #[.slice A n c, .int .i64 (a : Int), .int .i64 (p : Int)] 53)) :=
  ⟨h.t.below ((Below.refl _ _).alloc (Nat.le_refl _) _), (Below.heap_alloc _ _ _ h.n.lt).trans h.n, (Below.heap_alloc _ _ _ h.o.lt).trans h.o, h.be.alloc h.be.size _⟩

set_option maxRecDepth 100000 in
theorem readO_wo (B : List Nat) (a : Nat) : Wr.readO true B a = (Wr.wo (Wr.dec true B 300 300 a)).map fun x => (x.1, x.2.2) := by
  unfold Wr.readO Wr.wo
  cases Wr.dec true B 300 300 a with
  | none => rfl
  | some x =>
    obtain ⟨t, q, c⟩ := x
    simp only
    split <;> rfl

set_option maxRecDepth 100000 in
set_option maxHeartbeats 4000000 in
theorem read7_in (w : World) (A : Option Addr) (n c : Nat) (B : List Nat) (h : By w A n c B) (hc : c ≤ maxLen) (a : Nat) (ha : a ≤ n) :
    Calls Try.prog 15 #[.slice A n c, .int .i64 (a : Int)] w (RdP w (Wr.readO true B a)) := by
  have hmf : ∀ (fn : Fn) (first cap : Array Value) (w : World), (Instr.makeFunc fn first cap).run Try.prog w = .ok (.func fn first cap) w := fun _ _ _ _ => rfl
  have V := Rv.new w
  have hnc := h.2.1
  have hn : n ≤ 9223372036854775807 := by unfold maxLen at hc; omega
  have hsW : (((w.alloc (.cells #[.int .i64 zeroR.k, .int .i64 zeroR.n, .bool zeroR.g, .slice zeroR.A zeroR.ln zeroR.lc, .int .u64 zeroR.u, .string zeroR.s, .slice zeroR.B zeroR.m zeroR.d] 28)).alloc (.cells #[.int .i64 0] 3)).alloc (.cells #[.bool false] 4)).heap.size = w.heap.size + 3 := by simp
  go_enter_defers Try.func15, Try.ntmps15
  go_upto_region 2 with fail
  generalize ((w.alloc (.cells #[.int .i64 zeroR.k, .int .i64 zeroR.n, .bool zeroR.g, .slice zeroR.A zeroR.ln zeroR.lc, .int .u64 zeroR.u, .string zeroR.s, .slice zeroR.B zeroR.m zeroR.d] 28)).alloc (.cells #[.int .i64 0] 3)).alloc (.cells #[.bool false] 4) = W at *
  have hd : decide ((a : Int) < 0) = false := by rw [decide_eq_false_iff_not]; omega
  have hd2 : decide ((n : Int) < (a : Int)) = false := by rw [decide_eq_false_iff_not]; omega
  have V2 : Rv w (W.alloc (.cells #[.slice A n c, .int .i64 (a : Int), .int .i64 300] 53)) := V.dec A n c a 300
  have hb2 := (Below.refl W.heap.size W).alloc (Nat.le_refl _) (.cells #[.slice A n c, .int .i64 (a : Int), .int .i64 300] 53)
  have hB2 := (h.below V.be).below hb2
  have D2 : Ds (W.alloc (.cells #[.slice A n c, .int .i64 (a : Int), .int .i64 300] 53)) (w.heap.size + 3) A n c B a 300 := by
    rw [← hsW]
    exact ⟨heap_alloc_new W _, hB2, (h.below V.be).blk (Nat.le_refl _), hc, ha⟩
  have s2 : (W.alloc (.cells #[.slice A n c, .int .i64 (a : Int), .int .i64 300] 53)).heap.size = w.heap.size + 4 := by rw [World.size_alloc, hsW]
  clear hB2 hb2 V
  go_wp2_with fail
  generalize W.alloc (.cells #[.slice A n c, .int .i64 (a : Int), .int .i64 300] 53) = W2 at *
  have Q := whole7_any (w.heap.size + 3) A n c B W2 a 300 (Nat.le_refl _) D2
  (with_reducible refine Q.mono ?_)
  clear Q
  have hro := Lib.hid (readO_wo B a)
  cases hx : Wr.wo (Wr.dec true B 300 300 a) with
  | none =>
    rw [hx] at hro
    rintro e w1 ⟨rfl, hg⟩
    have V3 := V2.grown hg (Nat.le_refl _)
    rw [show Wr.readO true B a = none from hro.out]
    go_wp2
    refine leaves_cons (f := 26) (args := #[.pointer (some ⟨w.heap.size, 0, none⟩), .pointer (some ⟨w.heap.size + 1, 0, none⟩), .pointer (some ⟨w.heap.size + 1 + 1, 0, none⟩)]) (by simp) (by simp [go_sem]) ?_
    refine (catch7_bad w.heap.size (w.heap.size + 1) (w.heap.size + 1 + 1) zeroR 0 false (.string noTm) [] _ V3.t V3.n.c0 V3.n.f0 V3.o.c0 V3.o.f0 (by omega) (by omega) (by omega)).mono ?_
    rintro e u' w'' ⟨rfl, rfl, rfl⟩
    obtain ⟨W', hW', V'⟩ := V3.end_
    have y0 := V'.t.at.c0; have y1 := V'.t.at.c1; have y2 := V'.t.at.c2; have y3 := V'.t.at.c3; have y4 := V'.t.at.c4; have y5 := V'.t.at.c5; have y6 := V'.t.at.c6
    have yn := V'.n.c0
    have yo := V'.o.c0
    have bb := V'.be
    change Leaves _ _ _ _ _ _ (((put7 w1 w.heap.size zeroR).setCell ⟨w.heap.size + 1, 0, none⟩ (.int .i64 0)).setCell ⟨w.heap.size + 1 + 1, 0, none⟩ (.bool false))
    rw [← hW']
    exact ⟨.tuple #[.agg #[.int .i64 zeroR.k, .int .i64 zeroR.n, .bool zeroR.g, .slice zeroR.A zeroR.ln zeroR.lc, .int .u64 zeroR.u, .string zeroR.s, .slice zeroR.B zeroR.m zeroR.d], .int .i64 0, .bool false], by simp [results, Try.results15, go_sem, y0, y1, y2, y3, y4, y5, y6, yn, yo], rfl, bb⟩
  | some y =>
    obtain ⟨t, q, a1⟩ := y
    rw [hx] at hro
    rintro e w1 ⟨R, rfl, tv, d1, hg⟩
    have V3 := V2.grown hg (Nat.le_refl _)
    have s3 := hg.size
    have HX := Lib.hid (show Wr.readO true B a = some (t, a1) from hro.out)
    clear V2 D2 hg hro hx
    have f0 := V3.t.frozen 0; have f1 := V3.t.frozen 1; have f2 := V3.t.frozen 2; have f3 := V3.t.frozen 3; have f4 := V3.t.frozen 4; have f5 := V3.t.frozen 5; have f6 := V3.t.frozen 6
    have z0 := V3.t.at.c0; have z1 := V3.t.at.c1; have z2 := V3.t.at.c2; have z3 := V3.t.at.c3; have z4 := V3.t.at.c4; have z5 := V3.t.at.c5; have z6 := V3.t.at.c6
    go_upto_region 6 with fail
    have P0 := V3.t.put R
    have P1 := V3.n.put7 (b := w.heap.size) (by omega) R
    have P2 := V3.o.put7 (b := w.heap.size) (by omega) R
    have P3 := V3.be.put7 (g := w.heap.size) (by omega) R
    have hav2 : 0 < n → Av A w.heap.size := h.blk (Nat.le_refl _)
    have hwg : w.heap.size ≠ w.heap.size + 3 := by omega
    have P4 : Ds (put7 w1 w.heap.size R) (w.heap.size + 3) A n c B a1 q := ((((((d1.setO hwg hav2 0 _).setO hwg hav2 1 _).setO hwg hav2 2 _).setO hwg hav2 3 _).setO hwg hav2 4 _).setO hwg hav2 5 _).setO hwg hav2 6 _
    have P5 := (tv.mono (S' := fun b => w.heap.size + 3 ≤ b) (fun b hb => by omega)).keep ((Keeps.refl _ w1).put7 (g := w.heap.size) (by omega) R)
    clear f0 f1 f2 f3 f4 f5 f6 z0 z1 z2 z3 z4 z5 z6 V3 d1 tv
    change Code.wp _ _ _ _ (put7 w1 w.heap.size R)
    generalize put7 w1 w.heap.size R = W4 at *
    have y0 := P0.at.c0; have y1 := P0.at.c1; have y2 := P0.at.c2; have y3 := P0.at.c3; have y4 := P0.at.c4; have y5 := P0.at.c5; have y6 := P0.at.c6
    have f0 := P0.frozen 0; have f1 := P0.frozen 1; have f2 := P0.frozen 2; have f3 := P0.frozen 3; have f4 := P0.frozen 4; have f5 := P0.frozen 5; have f6 := P0.frozen 6
    have n0 := P1.c0
    have m0 := P1.f0
    have o0 := P2.c0
    have k0 := P2.f0
    have x1 := P4.bx.c1
    have ne1 : w.heap.size + 1 ≠ w.heap.size := by omega
    go_region
    have Q0 : Box7 (((put7 W4 w.heap.size R).setCell ⟨w.heap.size + 1, 0, none⟩ (.int .i64 (a1 : Int))).setCell ⟨w.heap.size + 1 + 1, 0, none⟩ (.bool true)).drew w.heap.size R := (((P0.put R).setO (g' := w.heap.size + 1) (by omega) 0 (.int .i64 (a1 : Int))).setO (g' := w.heap.size + 1 + 1) (by omega) 0 (.bool true)).drew
    have Q1 : Bx1 3 (((put7 W4 w.heap.size R).setCell ⟨w.heap.size + 1, 0, none⟩ (.int .i64 (a1 : Int))).setCell ⟨w.heap.size + 1 + 1, 0, none⟩ (.bool true)).drew (w.heap.size + 1) (.int .i64 (a1 : Int)) := (((P1.put7 (b := w.heap.size) (by omega) R).set (.int .i64 (a1 : Int))).far (b := w.heap.size + 1 + 1) (i := 0) (by omega) (.bool true)).drew
    have Q2 : Bx1 4 (((put7 W4 w.heap.size R).setCell ⟨w.heap.size + 1, 0, none⟩ (.int .i64 (a1 : Int))).setCell ⟨w.heap.size + 1 + 1, 0, none⟩ (.bool true)).drew (w.heap.size + 1 + 1) (.bool true) := (((P2.put7 (b := w.heap.size) (by omega) R).far (b := w.heap.size + 1) (i := 0) (by omega) (.int .i64 (a1 : Int))).set (.bool true)).drew
    have Q3 := (((P3.put7 (g := w.heap.size) (by omega) R).setCell (p := ⟨w.heap.size + 1, 0, none⟩) (by simp only; omega) (.int .i64 (a1 : Int))).setCell (p := ⟨w.heap.size + 1 + 1, 0, none⟩) (by simp only; omega) (.bool true)).drew
    have Q5 := (P5.keep (((((Keeps.refl _ W4).put7 (g := w.heap.size) (by omega) R).setCell (p := ⟨w.heap.size + 1, 0, none⟩) (by simp only; omega) (.int .i64 (a1 : Int))).setCell (p := ⟨w.heap.size + 1 + 1, 0, none⟩) (by simp only; omega) (.bool true)).drew)).mono (S' := fun b => w.heap.size ≤ b) (fun b hb => by omega)
    change Exit.then _ _ _ _ ((((put7 W4 w.heap.size R).setCell ⟨w.heap.size + 1, 0, none⟩ (.int .i64 (a1 : Int))).setCell ⟨w.heap.size + 1 + 1, 0, none⟩ (.bool true)).drew)
    generalize (((put7 W4 w.heap.size R).setCell ⟨w.heap.size + 1, 0, none⟩ (.int .i64 (a1 : Int))).setCell ⟨w.heap.size + 1 + 1, 0, none⟩ (.bool true)).drew = W9 at *
    clear y0 y1 y2 y3 y4 y5 y6 f0 f1 f2 f3 f4 f5 f6 n0 m0 o0 k0 x1 P0 P1 P2 P3 P4 P5
    go_wp2
    refine leaves_cons (f := 26) (args := #[.pointer (some ⟨w.heap.size, 0, none⟩), .pointer (some ⟨w.heap.size + 1, 0, none⟩), .pointer (some ⟨w.heap.size + 1 + 1, 0, none⟩)]) (by simp) (by simp [go_sem]) ?_
    refine (catch7_idle ⟨w.heap.size, 0, none⟩ ⟨w.heap.size + 1, 0, none⟩ ⟨w.heap.size + 1 + 1, 0, none⟩ _).mono ?_
    rintro e u' w'' ⟨rfl, rfl, rfl⟩
    have y0 := Q0.at.c0; have y1 := Q0.at.c1; have y2 := Q0.at.c2; have y3 := Q0.at.c3; have y4 := Q0.at.c4; have y5 := Q0.at.c5; have y6 := Q0.at.c6
    have yn := Q1.c0
    have yo := Q2.c0
    refine ⟨.tuple #[.agg #[.int .i64 R.k, .int .i64 R.n, .bool R.g, .slice R.A R.ln R.lc, .int .u64 R.u, .string R.s, .slice R.B R.m R.d], .int .i64 (a1 : Int), .bool true], by simp [results, Try.results15, go_sem, y0, y1, y2, y3, y4, y5, y6, yn, yo], ?_⟩
    show RdP w (Wr.readO true B a) _ _
    rw [HX.out]
    exact ⟨R, rfl, Q5, Q3⟩

set_option maxRecDepth 100000 in
theorem read7_any (w : World) (A : Option Addr) (n c : Nat) (B : List Nat) (h : By w A n c B) (hc : c ≤ maxLen) (z : Int) :
    Calls Try.prog 15 #[.slice A n c, .int .i64 z] w (RdP w (Wr.rdO B z)) := by
  unfold Wr.rdO
  have hn : n ≤ maxLen := Nat.le_trans h.2.1 hc
  by_cases hz : z < 0
  · rw [if_pos hz]
    exact read7_out w A n c hn z (.inl hz)
  · rw [if_neg hz]
    by_cases hz2 : (n : Int) < z
    · rw [Wr.readO_out (by have := h.1; omega)]
      exact read7_out w A n c hn z (.inr hz2)
    · have e : z = (z.toNat : Int) := by omega
      have := read7_in w A n c B h hc z.toNat (by omega)
      rw [← e] at this
      exact this
end Go.Proofs.Ytomohdfcggghoaa

namespace Go.Proofs.Ytomohdfcggghoaa
open Go.RowKit

/-- A variable that holds a term. -/
structure Vm (W : World) (g : Nat) (R : TR) (t : Tm) : Prop where
  bx : Box7 W g R
  tv : TV W R t
set_option maxRecDepth 100000 in
theorem Vm.below {W W' : World} {g : Nat} {R : TR} {t : Tm} (h : Vm W g R t) (hb : Below W.heap.size W W') : Vm W' g R t := ⟨h.bx.below hb, h.tv.bel hb⟩
set_option maxRecDepth 100000 in
theorem Vm.new {w : World} {R : TR} {t : Tm} (h : TV w R t) : Vm (w.alloc (.cells #[.int .i64 R.k, .int .i64 R.n, .bool R.g, .slice R.A R.ln R.lc, .int .u64 R.u, .string R.s, .slice R.B R.m R.d] 28)) w.heap.size R t := ⟨Box7.new w R, h.bel ((Below.refl _ _).alloc (Nat.le_refl _) _)⟩

set_option maxRecDepth 100000 in
theorem sameB_eq (w : World) (A B : Option Addr) (n c m d : Nat) (l k : List Nat) (h : By w A n c l) (hn : c ≤ maxLen) (h' : By w B m d k) (hm : d ≤ maxLen) (e : l = k) :
    Calls Try.prog 11 #[.slice A n c, .slice B m d] w fun e w' => e = .returned (.bool true) ∧ Below w.heap.size w w' := by
  refine (sameBytes_any w A B n c m d l k h hn h' hm).mono ?_
  rw [decide_eq_true e]
  rintro e w' ⟨rfl, q, rfl⟩
  exact ⟨rfl, (Below.refl _ _).drewN' q⟩
set_option maxRecDepth 100000 in
theorem Bo.cap' {w : World} {base n c : Nat} {A : Option Addr} {l : List Nat} (h : Bo w base A n c l) : c ≤ maxLen := h.cap.2
def tAt7 : Tm := .mk 4 7 false [] 0 ⟨#[]⟩ []
set_option maxRecDepth 100000 in
theorem tNil7_ok : tNil.Ok := by simp [tNil, Tm.Ok, Tm.Oks, ByteArray.size]
set_option maxRecDepth 100000 in
theorem tNil7_may : tNil.mayB = true := by
  simp [Tm.mayB, Tm.formB_eq, Tm.formsB, tNil, Tm.cap, Tm.wt, Tm.alikeB, Tm.ment, Tm.boundB, Tm.kind, Tm.num, Tm.neg, Tm.mag, Tm.bits, Tm.bytes, Tm.args]
set_option maxRecDepth 100000 in
theorem tAt7_may : tAt7.mayB = true := by
  simp [Tm.mayB, Tm.formB_eq, Tm.formsB, tAt7, Tm.cap, Tm.wt, Tm.alikeB, Tm.ment, Tm.boundB, Tm.kind, Tm.num, Tm.neg, Tm.mag, Tm.bits, Tm.bytes, Tm.args]
set_option maxRecDepth 100000 in
theorem tNil7_enc : Wr.enc tNil = [7] := by
  rw [tNil, Wr.enc, Wr.encs, Wr.body, if_neg (by decide), if_neg (by decide), if_neg (by decide), if_neg (by decide), if_neg (by decide), if_neg (by decide)]
  rfl
set_option maxRecDepth 100000 in
theorem tAt7_enc : Wr.enc tAt7 = [4, 7] := by
  rw [tAt7, Wr.enc, Wr.encs, Wr.body, if_neg (by decide), if_neg (by decide), if_neg (by decide), if_pos (by decide)]
  rfl
set_option maxRecDepth 100000 in
theorem aw7_read : Wr.rdO [9, 4, 7] 1 = some (tAt7, 3) := by
  unfold Wr.rdO
  rw [if_neg (by decide)]
  have := Wr.readO_of (S := true) (B := [9, 4, 7]) (a := 1) (t := tAt7) (r := []) (by simp) tAt7_may (by rw [tAt7, Wr.fit_mk]; simp) (by rw [tAt7_enc]; rfl)
  rw [tAt7_enc] at this
  exact this

set_option maxRecDepth 100000 in
set_option maxRecDepth 100000 in
set_option maxHeartbeats 4000000 in
theorem awake7 (w : World) : Calls Try.prog 8 #[] w fun e w' => e = .returned (.bool true) ∧ Below w.heap.size w w' := by
  have hnil : TV w (mkR 7 0 0 ⟨#[]⟩ none 0 0) tNil := TV.leaf (by omega) (by omega) (by omega) (by omega) (by omega) (by omega) (by decide)
  go_enter Try.func8, Try.ntmps8
  go_wp2_with fail
  have Q := lay_yes w (mkR 7 0 0 ⟨#[]⟩ none 0 0) tNil hnil tNil7_ok tNil7_may
  (with_reducible refine Q.mono ?_)
  clear Q
  rintro e w1 ⟨A, c, rfl, hB, hb1⟩
  rw [tNil7_enc] at hB ⊢
  have hrow := By.new w1 [9, 4, 7] (by intro x hx; simp at hx; omega)
  have hA1 := (Below.refl w1.heap.size w1).alloc (Nat.le_refl _) (.cells #[.int .u8 9, .int .u8 4, .int .u8 7] 5)
  have hB2 := hB.below hA1
  have b2 := hb1.trans (hA1.mono hb1.size)
  clear hA1 hB hb1
  go_wp2_with fail
  have hrow' : By (w1.alloc (.cells #[.int .u8 9, .int .u8 4, .int .u8 7] 5)) (some ⟨w1.heap.size, 0, none⟩) 3 3 [9, 4, 7] := hrow
  clear hrow
  generalize w1.alloc (.cells #[.int .u8 9, .int .u8 4, .int .u8 7] 5) = W1 at *
  have Q := read7_any W1 _ 3 3 [9, 4, 7] hrow' (by decide) 1
  rw [aw7_read] at Q
  (with_reducible refine Q.mono ?_)
  clear Q
  rintro e w2 ⟨R, rfl, tv, hb2⟩
  have hB3 := hB2.below hb2
  have b3 := b2.trans (hb2.mono b2.size)
  have V := Vm.new tv.tv
  have hA2 := (Below.refl w2.heap.size w2).alloc (Nat.le_refl _) (.cells #[.int .i64 R.k, .int .i64 R.n, .bool R.g, .slice R.A R.ln R.lc, .int .u64 R.u, .string R.s, .slice R.B R.m R.d] 28)
  have hB4 := hB3.below hA2
  have b4 := b3.trans (hA2.mono b3.size)
  clear hB2 hB3 b2 b3 hb2 tv hA2 hrow'
  go_upto_region 3 with fail
  generalize w2.alloc (.cells #[.int .i64 R.k, .int .i64 R.n, .bool R.g, .slice R.A R.ln R.lc, .int .u64 R.u, .string R.s, .slice R.B R.m R.d] 28) = W at *
  generalize w2.heap.size = g at *
  have hA3 : Below W.heap.size W (W.alloc (.cells #[.int .u8 7] 5)).drew := ((Below.refl W.heap.size W).alloc (Nat.le_refl _) _).drew
  have V3 := V.below hA3
  have hB5 := hB4.below hA3
  have b5 := b4.trans (hA3.mono b4.size)
  have hN : By (W.alloc (.cells #[.int .u8 7] 5)).drew (some ⟨W.heap.size, 0, none⟩) 1 1 [7] := By.new W [7] (by intro x hx; simp at hx; omega)
  have V2 : Vm W.drew g R tAt7 := V.below (Below.refl _ _).drew
  have hB6 : By (W.alloc (.cells #[.int .u8 7] 5)).drew A 1 c [7] := hB5.by
  have hcc := hB5.cap'
  clear hA3 V hB4 hB5 b4
  go_region_held3 (fun w' => w'.cell? ⟨g, 0, none⟩ = some (.int .i64 R.k) ∧ w'.cell? ⟨g, 1, none⟩ = some (.int .i64 R.n) ∧ w'.cell? ⟨g, 2, none⟩ = some (.bool R.g) ∧ w'.cell? ⟨g, 3, none⟩ = some (.slice R.A R.ln R.lc) ∧ w'.cell? ⟨g, 4, none⟩ = some (.int .u64 R.u) ∧ w'.cell? ⟨g, 5, none⟩ = some (.string R.s) ∧ w'.cell? ⟨g, 6, none⟩ = some (.slice R.B R.m R.d))
    (first | with_reducible exact ⟨V2.bx.at.c0, V2.bx.at.c1, V2.bx.at.c2, V2.bx.at.c3, V2.bx.at.c4, V2.bx.at.c5, V2.bx.at.c6⟩ | with_reducible exact ⟨V3.bx.at.c0, V3.bx.at.c1, V3.bx.at.c2, V3.bx.at.c3, V3.bx.at.c4, V3.bx.at.c5, V3.bx.at.c6⟩ | with_reducible exact ⟨V4.bx.at.c0, V4.bx.at.c1, V4.bx.at.c2, V4.bx.at.c3, V4.bx.at.c4, V4.bx.at.c5, V4.bx.at.c6⟩ | with_reducible exact ⟨V5.bx.at.c0, V5.bx.at.c1, V5.bx.at.c2, V5.bx.at.c3, V5.bx.at.c4, V5.bx.at.c5, V5.bx.at.c6⟩ | with_reducible exact ⟨V6.bx.at.c0, V6.bx.at.c1, V6.bx.at.c2, V6.bx.at.c3, V6.bx.at.c4, V6.bx.at.c5, V6.bx.at.c6⟩)
    (first
      | (go_at_call 11; have Q := sameB_eq (W.alloc (.cells #[.int .u8 7] 5)).drew A (some ⟨W.heap.size, 0, none⟩) 1 c 1 1 [7] [7] hB6 hcc hN (by decide) rfl; (with_reducible refine Q.mono ?_); clear Q; rintro e v4 ⟨rfl, hb4⟩; have V4 := V3.below hb4; have b6 := b5.trans (hb4.mono b5.size); clear V2 hB6 hN)
      | (go_at_call 22; have Q := atom_any v4 7 (by omega) (by omega); (with_reducible refine Q.mono ?_); clear Q; rintro e v5 ⟨R5, rfl, T5, hb5⟩; have V5 := V4.below hb5; have b7 := b6.trans (hb5.mono b6.size); clear V3)
      | (go_at_call 18; have Q := sameTerm_eq tAt7 v5 R R5 V5.tv T5; (with_reducible refine Q.mono ?_); clear Q; rintro e v6 ⟨rfl, hb6⟩; have V6 := V5.below hb6; have b8 := b7.trans (hb6.mono b7.size); clear T5 V4))
  go_wp2
  go_ret
  exact ⟨rfl, b8⟩
end Go.Proofs.Ytomohdfcggghoaa
