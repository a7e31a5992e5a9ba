/-
  PACKAGE arith: Do's deferred function; Do.
-/
import Derived.Test.YtompimbeaeinbaaGreatArD
import Derived.Recover
import Derived.Defers
import Derived.Laws.Pointers
namespace Go.Proofs.YtompimbeaeinbaaGreat
open Go.RowKit

/-- A variable of one cell. -/
def Box1 (w : World) (g : Nat) (x : Value) : Prop := w.heap[g]? = some (.cells #[x] 3 (0, 0))
section
variable {w w' : World} {g : Nat} {x : Value}
set_option maxRecDepth 100000 in
theorem Box1.lt (h : Box1 w g x) : g < w.heap.size := (Array.getElem?_eq_some_iff.1 h).1
set_option maxRecDepth 100000 in
theorem Box1.c0 (h : Box1 w g x) : w.cell? ⟨g, 0, none⟩ = some x := by rw [cell_of_row w g 0 #[x] _ (0, 0) h]; rfl
set_option maxRecDepth 100000 in
theorem Box1.f0 (h : Box1 w g x) : w.frozen? ⟨g, 0, none⟩ = false := by unfold Box1 at h; simp [World.frozen?, h]
set_option maxRecDepth 100000 in
theorem Box1.new (w : World) (x : Value) : Box1 (w.alloc (.cells #[x] 3)) w.heap.size x := heap_alloc_new w _
set_option maxRecDepth 100000 in
theorem Box1.below (h : Box1 w g x) (hb : Below w.heap.size w w') : Box1 w' g x := (hb.block g h.lt).trans h
set_option maxRecDepth 100000 in
theorem Box1.set (h : Box1 w g x) (u : Value) : Box1 (w.setCell ⟨g, 0, none⟩ u) g u := by
  unfold Box1 at h ⊢
  simp [World.setCell, Array.getElem?_modify, h]
set_option maxRecDepth 100000 in
theorem Box1.put7 (h : Box1 w g x) {g' : Nat} (hn : g' ≠ g) (R : TR) : Box1 (put7 w g' R) g x := by
  unfold Box1 at h ⊢
  simp [World.setCell, Array.getElem?_modify, h, hn]
end

set_option maxRecDepth 100000 in
theorem assert_failure (W : World) (xT : TypeId) (v : Value) : (Instr.typeAssert (.iface 38 v) xT 38 true).run Tryz.prog W = .ok (.tuple #[v, .bool true]) W := by kernel_rfl

set_option maxRecDepth 100000 in
theorem catch_idle (p q : Addr) (w : World) :
    CallsD Tryz.prog 13 #[.pointer (some p), .pointer (some q)] .returning w fun e u' w' => e = .returned (.tuple #[]) ∧ u' = .returning ∧ w' = w := by
  refine callsD_of_wpS Tryz.func13 rfl fun c₀ cs hu => ?_
  apply wpS_seq
  apply wpS_region
  simp [wpOpsS, go_sem, recoverD, hu, Tryz.ntmps13, Exit.thenS]
  refine wpS_of_wp ?_
  simp only [Array.replicate, List.replicate]
  go_wp2
  cases c₀
  simp_all [bodyPostS, results, Tryz.results13]

set_option maxRecDepth 100000 in
set_option maxHeartbeats 4000000 in
theorem catch_bad (g g' : Nat) (R : TR) (x : Int) (older : List PanicEntry) (w : World) (h : Box7 w g R) (hc : w.cell? ⟨g', 0, none⟩ = some (.int .i64 x)) (hz : w.frozen? ⟨g', 0, none⟩ = false) (hn : g ≠ g') :
    CallsD Tryz.prog 13 #[.pointer (some ⟨g, 0, none⟩), .pointer (some ⟨g', 0, none⟩)] (.panicking ({ v := .iface 38 (.int .i64 1), recovered := false } :: older)) w fun e u' w' =>
      e = .returned (.tuple #[]) ∧ u' = .panicking ({ v := .iface 38 (.int .i64 1), recovered := true } :: older) ∧ w' = (put7 w g zeroR).setCell ⟨g', 0, none⟩ (.int .i64 1) := by
  have f0 := h.frozen 0; have f1 := h.frozen 1; have f2 := h.frozen 2; have f3 := h.frozen 3; have f4 := h.frozen 4; have f5 := h.frozen 5; have f6 := h.frozen 6; have y0 := h.at.c0; have y1 := h.at.c1; have y2 := h.at.c2; have y3 := h.at.c3; have y4 := h.at.c4; have y5 := h.at.c5; have y6 := h.at.c6
  have hta := assert_failure
  refine callsD_of_wpS Tryz.func13 rfl fun c₀ cs hu => ?_
  apply wpS_seq
  apply wpS_region
  simp [wpOpsS, go_sem, recoverD, hu, Tryz.ntmps13, Exit.thenS]
  refine wpS_of_wp ?_
  simp only [Array.replicate, List.replicate]
  go_wp2
  exact ⟨rfl, _, rfl, _, by simp [results, Tryz.results13], rfl, rfl, rfl⟩

def zeroT : Tm := .mk 0 0 false [] 0 ⟨#[]⟩ []
/-- Do leaves this term, and -1. -/
def DoY (w : World) (t : Tm) (e : Ending) (w' : World) : Prop :=
  ∃ R : TR, e = .returned (.tuple #[.agg #[.int .i64 R.k, .int .i64 R.n, .bool R.g, .slice R.A R.ln R.lc, .int .u64 R.u, .string R.s, .slice R.B R.m R.d], .int .i64 (-1)]) ∧ TV w' R t ∧ Own w' w.heap.size R.A R.ln R.lc t.mag ∧ R.m = 0 ∧ Below w.heap.size w w'
/-- Do leaves a zero term, and BadArith. -/
def DoN (w : World) (e : Ending) (w' : World) : Prop := e = .returned (.tuple #[.agg #[.int .i64 zeroR.k, .int .i64 zeroR.n, .bool zeroR.g, .slice zeroR.A zeroR.ln zeroR.lc, .int .u64 zeroR.u, .string zeroR.s, .slice zeroR.B zeroR.m zeroR.d], .int .i64 1]) ∧ Below w.heap.size w w'

set_option maxRecDepth 100000 in
set_option maxHeartbeats 4000000 in
theorem do_some (w : World) (op : Int) (r r' : TR) (t t' u : Tm) (h : TV w r t) (h' : TV w r' t') (hd : ∀ w', TV w' r t → TV w' r' t' → Calls Tryz.prog 14 #[.int .i64 op, .agg #[.int .i64 r.k, .int .i64 r.n, .bool r.g, .slice r.A r.ln r.lc, .int .u64 r.u, .string r.s, .slice r.B r.m r.d], .agg #[.int .i64 r'.k, .int .i64 r'.n, .bool r'.g, .slice r'.A r'.ln r'.lc, .int .u64 r'.u, .string r'.s, .slice r'.B r'.m r'.d]] w' (MadeP w' u)) :
    Calls Tryz.prog 6 #[.int .i64 op, .agg #[.int .i64 r.k, .int .i64 r.n, .bool r.g, .slice r.A r.ln r.lc, .int .u64 r.u, .string r.s, .slice r.B r.m r.d], .agg #[.int .i64 r'.k, .int .i64 r'.n, .bool r'.g, .slice r'.A r'.ln r'.lc, .int .u64 r'.u, .string r'.s, .slice r'.B r'.m r'.d]] w (DoY w u) := by
  have hmf : ∀ (fn : Fn) (first cap : Array Value) (w : World), (Instr.makeFunc fn first cap).run Tryz.prog w = .ok (.func fn first cap) w := fun _ _ _ _ => rfl
  have I := ((SmI.new h h').below ((Below.refl _ _).alloc (Nat.le_refl _) (.cells #[.int .i64 zeroR.k, .int .i64 zeroR.n, .bool zeroR.g, .slice zeroR.A zeroR.ln zeroR.lc, .int .u64 zeroR.u, .string zeroR.s, .slice zeroR.B zeroR.m zeroR.d] 28))).below ((Below.refl _ _).alloc (Nat.le_refl _) (.cells #[.int .i64 0] 3))
  have hz := (Box7.new ((w.alloc (.cells #[.int .i64 r.k, .int .i64 r.n, .bool r.g, .slice r.A r.ln r.lc, .int .u64 r.u, .string r.s, .slice r.B r.m r.d] 28)).alloc (.cells #[.int .i64 r'.k, .int .i64 r'.n, .bool r'.g, .slice r'.A r'.ln r'.lc, .int .u64 r'.u, .string r'.s, .slice r'.B r'.m r'.d] 28)) zeroR).below ((Below.refl _ _).alloc (Nat.le_refl _) (.cells #[.int .i64 0] 3))
  have hi := Box1.new (((w.alloc (.cells #[.int .i64 r.k, .int .i64 r.n, .bool r.g, .slice r.A r.ln r.lc, .int .u64 r.u, .string r.s, .slice r.B r.m r.d] 28)).alloc (.cells #[.int .i64 r'.k, .int .i64 r'.n, .bool r'.g, .slice r'.A r'.ln r'.lc, .int .u64 r'.u, .string r'.s, .slice r'.B r'.m r'.d] 28)).alloc (.cells #[.int .i64 zeroR.k, .int .i64 zeroR.n, .bool zeroR.g, .slice zeroR.A zeroR.ln zeroR.lc, .int .u64 zeroR.u, .string zeroR.s, .slice zeroR.B zeroR.m zeroR.d] 28)) (.int .i64 0)
  simp only [World.size_alloc] at hz hi
  have hW : ((((w.alloc (.cells #[.int .i64 r.k, .int .i64 r.n, .bool r.g, .slice r.A r.ln r.lc, .int .u64 r.u, .string r.s, .slice r.B r.m r.d] 28)).alloc (.cells #[.int .i64 r'.k, .int .i64 r'.n, .bool r'.g, .slice r'.A r'.ln r'.lc, .int .u64 r'.u, .string r'.s, .slice r'.B r'.m r'.d] 28)).alloc (.cells #[.int .i64 zeroR.k, .int .i64 zeroR.n, .bool zeroR.g, .slice zeroR.A zeroR.ln zeroR.lc, .int .u64 zeroR.u, .string zeroR.s, .slice zeroR.B zeroR.m zeroR.d] 28)).alloc (.cells #[.int .i64 0] 3)).heap.size = w.heap.size + 4 := by simp
  go_enter_defers Tryz.func6, Tryz.ntmps6
  go_wp2_with fail
  generalize (((w.alloc (.cells #[.int .i64 r.k, .int .i64 r.n, .bool r.g, .slice r.A r.ln r.lc, .int .u64 r.u, .string r.s, .slice r.B r.m r.d] 28)).alloc (.cells #[.int .i64 r'.k, .int .i64 r'.n, .bool r'.g, .slice r'.A r'.ln r'.lc, .int .u64 r'.u, .string r'.s, .slice r'.B r'.m r'.d] 28)).alloc (.cells #[.int .i64 zeroR.k, .int .i64 zeroR.n, .bool zeroR.g, .slice zeroR.A zeroR.ln zeroR.lc, .int .u64 zeroR.u, .string zeroR.s, .slice zeroR.B zeroR.m zeroR.d] 28)).alloc (.cells #[.int .i64 0] 3) = W at *
  refine (hd W I.tv I.tw).mono ?_
  rintro e w1 ⟨R, rfl, hT, hO, hm0, hb1⟩
  have HT := Lib.hid hT
  have HO := Lib.hid hO
  have HM := Lib.hid hm0
  have I1 := I.below hb1
  have z1 := hz.below hb1
  have i1 := hi.below hb1
  have hsz : w.heap.size + 4 ≤ w1.heap.size := by rw [← hW]; exact hb1.size
  clear hT hO hm0 I hz hi hd
  have c0 := i1.c0
  have g0 := i1.f0
  have ne : w.heap.size + 1 + 1 ≠ w.heap.size + 1 + 1 + 1 := by omega
  have f0 := z1.frozen 0; have f1 := z1.frozen 1; have f2 := z1.frozen 2; have f3 := z1.frozen 3; have f4 := z1.frozen 4; have f5 := z1.frozen 5; have f6 := z1.frozen 6; have q0 := z1.at.c0; have q1 := z1.at.c1; have q2 := z1.at.c2; have q3 := z1.at.c3; have q4 := z1.at.c4; have q5 := z1.at.c5; have q6 := z1.at.c6
  go_wp2
  refine leaves_cons (f := 13) (args := #[.pointer (some ⟨w.heap.size + 1 + 1, 0, none⟩), .pointer (some ⟨w.heap.size + 1 + 1 + 1, 0, none⟩)]) (by simp) (by simp [go_sem]) ?_
  refine (catch_idle ⟨w.heap.size + 1 + 1, 0, none⟩ ⟨w.heap.size + 1 + 1 + 1, 0, none⟩ _).mono ?_
  rintro e u' w'' ⟨rfl, rfl, rfl⟩
  have tS := TVS.leafy (S := fun b => w.heap.size + 4 ≤ b) HT.out (fun _ a e => by have o := HO.out; rw [e] at o; have := (World.ownsRow.lt o.2.2 a.block rfl).1; omega) HM.out
  have hT5 := (tS.keep (((Keeps.refl _ w1).put7 (g := w.heap.size + 1 + 1) (by omega) R).setCell (p := ⟨w.heap.size + 1 + 1 + 1, 0, none⟩) (by simp only; omega) (.int .i64 (-1)))).tv
  have hO5 := (HO.out.put7 (g := w.heap.size + 1 + 1) (by omega) R).setO (p := ⟨w.heap.size + 1 + 1 + 1, 0, none⟩) (by simp only; omega) (.int .i64 (-1))
  have C := ((z1.put R).setO (g' := w.heap.size + 1 + 1 + 1) (by omega) 0 (.int .i64 (-1))).at
  have D := ((i1.put7 ne R).set (.int .i64 (-1))).c0
  have hB5 := (I1.be.put7 (g := w.heap.size + 1 + 1) (by omega) R).setCell (p := ⟨w.heap.size + 1 + 1 + 1, 0, none⟩) (by simp only; omega) (.int .i64 (-1))
  have y0 := C.c0; have y1 := C.c1; have y2 := C.c2; have y3 := C.c3; have y4 := C.c4; have y5 := C.c5; have y6 := C.c6
  clear C f0 f1 f2 f3 f4 f5 f6 q0 q1 q2 q3 q4 q5 q6 c0 g0 HT HO tS
  change Leaves _ _ _ _ _ _ ((put7 w1 (w.heap.size + 1 + 1) R).setCell ⟨w.heap.size + 1 + 1 + 1, 0, none⟩ (.int .i64 (-1)))
  generalize (put7 w1 (w.heap.size + 1 + 1) R).setCell ⟨w.heap.size + 1 + 1 + 1, 0, none⟩ (.int .i64 (-1)) = W5 at *
  exact ⟨.tuple #[.agg #[.int .i64 R.k, .int .i64 R.n, .bool R.g, .slice R.A R.ln R.lc, .int .u64 R.u, .string R.s, .slice R.B R.m R.d], .int .i64 (-1)], by simp [results, Tryz.results6, go_sem, y0, y1, y2, y3, y4, y5, y6, D], R, rfl, hT5, hO5.mono (by omega), HM.out, hB5⟩

set_option maxRecDepth 100000 in
set_option maxHeartbeats 4000000 in
theorem do_none (w : World) (op : Int) (r r' : TR) (t t' : Tm) (h : TV w r t) (h' : TV w r' t') (hd : ∀ w', TV w' r t → TV w' r' t' → Calls Tryz.prog 14 #[.int .i64 op, .agg #[.int .i64 r.k, .int .i64 r.n, .bool r.g, .slice r.A r.ln r.lc, .int .u64 r.u, .string r.s, .slice r.B r.m r.d], .agg #[.int .i64 r'.k, .int .i64 r'.n, .bool r'.g, .slice r'.A r'.ln r'.lc, .int .u64 r'.u, .string r'.s, .slice r'.B r'.m r'.d]] w' (BadP w')) :
    Calls Tryz.prog 6 #[.int .i64 op, .agg #[.int .i64 r.k, .int .i64 r.n, .bool r.g, .slice r.A r.ln r.lc, .int .u64 r.u, .string r.s, .slice r.B r.m r.d], .agg #[.int .i64 r'.k, .int .i64 r'.n, .bool r'.g, .slice r'.A r'.ln r'.lc, .int .u64 r'.u, .string r'.s, .slice r'.B r'.m r'.d]] w (DoN w) := by
  have hmf : ∀ (fn : Fn) (first cap : Array Value) (w : World), (Instr.makeFunc fn first cap).run Tryz.prog w = .ok (.func fn first cap) w := fun _ _ _ _ => rfl
  have I := ((SmI.new h h').below ((Below.refl _ _).alloc (Nat.le_refl _) (.cells #[.int .i64 zeroR.k, .int .i64 zeroR.n, .bool zeroR.g, .slice zeroR.A zeroR.ln zeroR.lc, .int .u64 zeroR.u, .string zeroR.s, .slice zeroR.B zeroR.m zeroR.d] 28))).below ((Below.refl _ _).alloc (Nat.le_refl _) (.cells #[.int .i64 0] 3))
  have hz := (Box7.new ((w.alloc (.cells #[.int .i64 r.k, .int .i64 r.n, .bool r.g, .slice r.A r.ln r.lc, .int .u64 r.u, .string r.s, .slice r.B r.m r.d] 28)).alloc (.cells #[.int .i64 r'.k, .int .i64 r'.n, .bool r'.g, .slice r'.A r'.ln r'.lc, .int .u64 r'.u, .string r'.s, .slice r'.B r'.m r'.d] 28)) zeroR).below ((Below.refl _ _).alloc (Nat.le_refl _) (.cells #[.int .i64 0] 3))
  have hi := Box1.new (((w.alloc (.cells #[.int .i64 r.k, .int .i64 r.n, .bool r.g, .slice r.A r.ln r.lc, .int .u64 r.u, .string r.s, .slice r.B r.m r.d] 28)).alloc (.cells #[.int .i64 r'.k, .int .i64 r'.n, .bool r'.g, .slice r'.A r'.ln r'.lc, .int .u64 r'.u, .string r'.s, .slice r'.B r'.m r'.d] 28)).alloc (.cells #[.int .i64 zeroR.k, .int .i64 zeroR.n, .bool zeroR.g, .slice zeroR.A zeroR.ln zeroR.lc, .int .u64 zeroR.u, .string zeroR.s, .slice zeroR.B zeroR.m zeroR.d] 28)) (.int .i64 0)
  simp only [World.size_alloc] at hz hi
  have hW : ((((w.alloc (.cells #[.int .i64 r.k, .int .i64 r.n, .bool r.g, .slice r.A r.ln r.lc, .int .u64 r.u, .string r.s, .slice r.B r.m r.d] 28)).alloc (.cells #[.int .i64 r'.k, .int .i64 r'.n, .bool r'.g, .slice r'.A r'.ln r'.lc, .int .u64 r'.u, .string r'.s, .slice r'.B r'.m r'.d] 28)).alloc (.cells #[.int .i64 zeroR.k, .int .i64 zeroR.n, .bool zeroR.g, .slice zeroR.A zeroR.ln zeroR.lc, .int .u64 zeroR.u, .string zeroR.s, .slice zeroR.B zeroR.m zeroR.d] 28)).alloc (.cells #[.int .i64 0] 3)).heap.size = w.heap.size + 4 := by simp
  go_enter_defers Tryz.func6, Tryz.ntmps6
  go_wp2_with fail
  generalize (((w.alloc (.cells #[.int .i64 r.k, .int .i64 r.n, .bool r.g, .slice r.A r.ln r.lc, .int .u64 r.u, .string r.s, .slice r.B r.m r.d] 28)).alloc (.cells #[.int .i64 r'.k, .int .i64 r'.n, .bool r'.g, .slice r'.A r'.ln r'.lc, .int .u64 r'.u, .string r'.s, .slice r'.B r'.m r'.d] 28)).alloc (.cells #[.int .i64 zeroR.k, .int .i64 zeroR.n, .bool zeroR.g, .slice zeroR.A zeroR.ln zeroR.lc, .int .u64 zeroR.u, .string zeroR.s, .slice zeroR.B zeroR.m zeroR.d] 28)).alloc (.cells #[.int .i64 0] 3) = W at *
  refine (hd W I.tv I.tw).mono ?_
  rintro e w1 ⟨rfl, hb1⟩
  have I1 := I.below hb1
  have z1 := hz.below hb1
  have i1 := hi.below hb1
  clear I hz hi hd
  go_wp2
  refine leaves_cons (f := 13) (args := #[.pointer (some ⟨w.heap.size + 1 + 1, 0, none⟩), .pointer (some ⟨w.heap.size + 1 + 1 + 1, 0, none⟩)]) (by simp) (by simp [go_sem]) ?_
  refine (catch_bad (w.heap.size + 1 + 1) (w.heap.size + 1 + 1 + 1) zeroR 0 [] w1 z1 i1.c0 i1.f0 (by omega)).mono ?_
  rintro e u' w'' ⟨rfl, rfl, rfl⟩
  have ne : w.heap.size + 1 + 1 ≠ w.heap.size + 1 + 1 + 1 := by omega
  have C := ((z1.put zeroR).setO (g' := w.heap.size + 1 + 1 + 1) (by omega) 0 (.int .i64 1)).at
  have D := ((i1.put7 ne zeroR).set (.int .i64 1)).c0
  have hB5 := (I1.be.put7 (g := w.heap.size + 1 + 1) (by omega) zeroR).setCell (p := ⟨w.heap.size + 1 + 1 + 1, 0, none⟩) (by simp only; omega) (.int .i64 1)
  have y0 := C.c0; have y1 := C.c1; have y2 := C.c2; have y3 := C.c3; have y4 := C.c4; have y5 := C.c5; have y6 := C.c6
  clear C
  change Leaves _ _ _ _ _ _ ((put7 w1 (w.heap.size + 1 + 1) zeroR).setCell ⟨w.heap.size + 1 + 1 + 1, 0, none⟩ (.int .i64 1))
  generalize (put7 w1 (w.heap.size + 1 + 1) zeroR).setCell ⟨w.heap.size + 1 + 1 + 1, 0, none⟩ (.int .i64 1) = W5 at *
  exact ⟨.tuple #[.agg #[.int .i64 zeroR.k, .int .i64 zeroR.n, .bool zeroR.g, .slice zeroR.A zeroR.ln zeroR.lc, .int .u64 zeroR.u, .string zeroR.s, .slice zeroR.B zeroR.m zeroR.d], .int .i64 1], by simp [results, Tryz.results6, go_sem, y0, y1, y2, y3, y4, y5, y6, D], rfl, hB5⟩
end Go.Proofs.YtompimbeaeinbaaGreat
