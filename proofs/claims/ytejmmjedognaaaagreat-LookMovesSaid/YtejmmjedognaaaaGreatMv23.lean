/-
  A RANGE OVER A FUNCTION WHOSE ITERATOR HAS STATE OF ITS OWN: blocks of a kind that the loop's body leaves alone.
  PACKAGE look: regions, as an iterator; a whole dump: from.
  PACKAGE look: a whole dump: from.
-/
import Derived.Test.YtejmmjedognaaaaGreatProg
import Derived.RangeFuncNested
import Derived.RangeFuncBound
import Derived.RangeFuncCalls
import Derived.RangeFuncLeaves
import Derived.Shelf.Abstract
import Derived.Shelf.RegionOpen
import Derived.WalkKit
import Derived.OwnWalkIn
import Derived.TacticsInMore
import Derived.LoopNIn
import Derived.LoopIn
import Derived.Test.YtejmmjedognaaaaGreatMv22
namespace Go.Proofs.YtejmmjedognaaaaGreat
open Go.RowKit

/-- It holds on where a block from B on is turned that meets M. -/
def AbM {β : Type} (M : Obj → Prop) (B : Nat) (J : β → World → Prop) : Prop :=
  ∀ s W W' row, J s W → W.grownBy W' row → (∀ r, row = some r → B ≤ r ∧ ∃ o : Obj, W.heap[r]? = some o ∧ M o) → J s W'
set_option maxRecDepth 100000 in
theorem AbM.alloc {β : Type} {M : Obj → Prop} {B : Nat} {J : β → World → Prop} (h : AbM M B J) {s : β} {W : World} (o : Obj) (hs : J s W) : J s (W.alloc o) :=
  h s W _ none hs (World.grownBy_alloc W o none) (fun r e => by cases e)
set_option maxRecDepth 100000 in
theorem AbM.putObj {β : Type} {M : Obj → Prop} {B : Nat} {J : β → World → Prop} (h : AbM M B J) {s : β} {W : World} {l : Nat} {o : Obj} (o' : Obj) (hs : J s W) (hB : B ≤ l) (hl : W.heap[l]? = some o) (ho : M o) : J s (W.putObj l o') :=
  h s W _ (some l) hs (grownBy_putObj' W l o') (fun r e => by cases e; exact ⟨hB, o, hl, ho⟩)
/-- Blocks from B on that meet M lie as they lay. -/
structure KpM (M : Obj → Prop) (B : Nat) (W W' : World) : Prop where
  size : W.heap.size ≤ W'.heap.size
  same : ∀ (k : Nat) (o : Obj), B ≤ k → W.heap[k]? = some o → M o → W'.heap[k]? = some o
set_option maxRecDepth 100000 in
theorem KpM.refl (M : Obj → Prop) (B : Nat) (W : World) : KpM M B W W := ⟨Nat.le_refl _, fun _ _ _ h _ => h⟩
set_option maxRecDepth 100000 in
theorem KpM.trans {M : Obj → Prop} {B : Nat} {X Y Z : World} (h : KpM M B X Y) (k : KpM M B Y Z) : KpM M B X Z := ⟨Nat.le_trans h.size k.size, fun i o hB hi ho => k.same i o hB (h.same i o hB hi ho) ho⟩
/-- A loop's book-keeping, or the iterator's own. -/
def Bk (Mi : Obj → Prop) (o : Obj) : Prop := (∃ r, o = .loop r) ∨ (∃ d, o = .deferred d) ∨ Mi o

/-- What an iterator promises that may write blocks that meet Mi. -/
def SeqM {α : Type} (F : Fence) (n : Nat) (P : Program) (g : Nat) (lb : Array Value) (encs : α → Array Value) (Mi : Obj → Prop) (Kp : World → World → Prop) (R S Sp : List α → Prop) (w : World) : Prop :=
  ∀ (l : Nat) (J Jx : List α → World → Prop) (W : World), Below w.heap.size w W → AbM Mi W.heap.size J → AbM Mi W.heap.size Jx →
    (∀ pre x W1, J pre W1 → R (pre ++ [x]) → YieldAt F (n - 1) P l (encs x) W1 fun e W' =>
      (e = .returned (.bool true) ∧ J (pre ++ [x]) W' ∧ Kp W1 W') ∨ (e = .returned (.bool false) ∧ Jx (pre ++ [x]) W')) →
    J [] W →
    CallsIn F n P g (#[.func (.yield l) #[] #[]] ++ lb) W fun e W' => (∃ v, e = .returned v) ∧ ((∃ xs, S xs ∧ J xs W') ∨ (∃ pre, Sp pre ∧ Jx pre W'))

/-- How a round's body may be left. -/
def postM {α : Type} (Mi : Obj → Prop) (B : Nat) (Kp : World → World → Prop) (I : List α → World → Prop) (Ix : Code → List α → World → Prop) (xs : List α) (W : World) : Exit → Act → World → Prop
  | .normal, _, W' => KpM (Bk Mi) B W W' ∧ Kp W W' ∧ I xs W'
  | .ret, _, W' => KpM (Bk Mi) B W W' ∧ Ix .ret xs W'
  | .exit id, _, W' => KpM (Bk Mi) B W W' ∧ Ix (.exit id) xs W'
  | .goto t, _, W' => KpM (Bk Mi) B W W' ∧ Ix (.goto t) xs W'
  | .panic _, _, _ => False
  | .outgrown, _, _ => False

set_option maxRecDepth 100000 in
set_option maxHeartbeats 1000000 in
theorem range_m {F : Fence} {n : Nat} {P : Program} {α : Type} {g : Operand} {ps : Array Tmp} {assign body : Code} {Q : Exit → Act → World → Prop} {a : Act} {w : World}
    (hro : F.round = none) (h1 : 1 ≤ n) {gf : Nat} {lb : Array Value} (hg : a.eval g = .func (.func gf) #[] lb) (hFg : F.fn gf) (eg : ∀ args w, (callFunc gf args).run P w = .ok (.enter gf args) w)
    {encs : α → Array Value} {Mi : Obj → Prop} {Kp : World → World → Prop} {R S Sp : List α → Prop} {w0 : World} (hseq : SeqM F (n - 1) P gf lb encs Mi Kp R S Sp w0)
    (hM1 : ∀ r, ¬ Mi (.loop r)) (hM2 : ∀ d, ¬ Mi (.deferred d)) (hKt : ∀ {A B C : World}, Kp A B → Kp B C → Kp A C) (hKb : ∀ (W : World) (l : Nat) (r : Loop) (o' : Obj), w.heap.size ≤ l → W.heap[l]? = some (.loop r) → Kp W (W.putObj l o'))
    (hb0 : Below w0.heap.size w0 w) (hps : ∀ x, (encs x).size = ps.size)
    (I : List α → World → Prop) (Ix : Code → List α → World → Prop) (hI : AbM (Bk Mi) w.heap.size I) (hIx : ∀ c, AbM (Bk Mi) w.heap.size (Ix c)) (h0 : I [] w) (Ax : List α → α → Act → World → Prop) (hAx : ∀ pre x a', AbM (Bk Mi) w.heap.size (fun (_ : Unit) W => Ax pre x a' W))
    (hassign : ∀ (l : Nat) (pre : List α) (x : α) (W : World) (K : Act → World → Prop), I pre W → R (pre ++ [x]) → (∀ a' W', KpM (Bk Mi) w.heap.size W W' → Kp W W' → I pre W' → Ax pre x a' W' → K a' W') →
      assign.wpIn (F.inRound l) (n - 1 - 1) P (Exit.then K (fun _ _ _ => False)) { tmps := (ps.zip (encs x)).foldl (fun t (p, v) => t.setIfInBounds p v) a.tmps, defers := [] } W)
    (hbody : ∀ (l : Nat) (pre : List α) (x : α) (a' : Act) (W : World), I pre W → Ax pre x a' W → R (pre ++ [x]) → body.wpIn (F.inRound l) (n - 1 - 1) P (postM Mi w.heap.size Kp I Ix (pre ++ [x]) W) a' W)
    (hdone : ∀ (D : Nat) (xs : List α) (W : World), w.heap.size ≤ D → S xs → I xs W → W.heap[D]? = some (.deferred (some [])) → Q .normal { a with defers := { target := .collected D, args := #[] } :: a.defers } W)
    (hstop : ∀ (D : Nat) (c : Code) (pre : List α) (W : World), w.heap.size ≤ D → Sp pre → Ix c pre W → W.heap[D]? = some (.deferred (some [])) → c.wpIn F n P Q { a with defers := { target := .collected D, args := #[] } :: a.defers } W) :
    (Code.rangeFunc g ps assign body).wpIn F n P Q a w := by
  refine wpIn_rangeFunc ?_
  intro fn hfn
  rw [hro]
  obtain ⟨rec, hrec⟩ : ∃ rec : LoopState → Option Code → Loop, rec = fun st pe => { state := st, pending := pe, fn, tmps := a.tmps, params := ps, assign, body, defers := w.heap.size } := ⟨_, rfl⟩
  obtain ⟨D, hD⟩ : ∃ D, D = w.heap.size := ⟨_, rfl⟩
  obtain ⟨L, hL⟩ : ∃ L, L = w.heap.size + 1 := ⟨_, rfl⟩
  obtain ⟨W1, hW1⟩ : ∃ W1, (w.alloc (.deferred (some []))).alloc (.loop (rec .ready none)) = W1 := ⟨_, rfl⟩
  have hs1 : W1.heap.size = w.heap.size + 2 := by rw [← hW1]; simp
  have hL1 : W1.heap[L]? = some (.loop (rec .ready none)) := by
    rw [← hW1, hL]
    have := World.alloc_heap_new (w.alloc (.deferred (some []))) (.loop (rec .ready none))
    rwa [World.size_alloc] at this
  have hK1 : W1.heap[D]? = some (.deferred (some [])) := by
    rw [← hW1, hD]
    exact (Below.heap_alloc _ _ _ (by simp)).trans (World.alloc_heap_new w _)
  have hb1 : Below w0.heap.size w0 W1 := by
    rw [← hW1]
    exact hb0.trans ((((Below.refl _ w).alloc (Nat.le_refl _) _).alloc (by simp) _).mono hb0.size)
  have hi1 : I [] W1 := by rw [← hW1]; exact hI.alloc _ (hI.alloc _ h0)
  -- a turn of a block that is the iterator's own leaves the two blocks of book-keeping
  have keep : ∀ {A B : World} {row : Option Nat} {k : Nat} {o : Obj}, A.grownBy B row → (∀ r, row = some r → W1.heap.size ≤ r ∧ ∃ o : Obj, A.heap[r]? = some o ∧ Mi o) → A.heap[k]? = some o → ¬ Mi o → B.heap[k]? = some o := fun hg hr hk hno =>
    (hg.block _ (Array.getElem?_eq_some_iff.1 hk).1 (fun e => by
      obtain ⟨_, o', ho', hm⟩ := hr _ e.symm
      rw [hk] at ho'
      cases ho'
      exact hno hm)).trans hk
  refine ⟨w.heap.size + 1, [{ target := .collected w.heap.size, args := #[] }], W1, { target := .fn (.func gf) lb, args := #[.func (.yield (w.heap.size + 1)) #[] #[]] }, W1, gf,
    #[.func (.yield (w.heap.size + 1)) #[] #[]] ++ lb, W1, ?_, ?_, ?_, ?_, fun _ => h1, ?_⟩
  · rw [← hW1, hrec]; exact run_enterLoop_outer _ _ _ _ _
  · simp only [resolve, hg]
    simp [go_sem]
  · intro f' hf'; simp [Target.leads] at hf'; subst hf'; exact hFg
  · simp [invoke, go_sem, eg]
  rw [← hL, ← hD]
  have hDL : D < L := by omega
  refine (hseq L
    (fun pre W => I pre W ∧ W.heap[L]? = some (.loop (rec .ready none)) ∧ W.heap[D]? = some (.deferred (some [])))
    (fun pre W => ∃ c, Ix c pre W ∧ W.heap[L]? = some (.loop (rec .done (some c))) ∧ W.heap[D]? = some (.deferred (some [])))
    W1 hb1 ?_ ?_ ?_ ⟨hi1, hL1, hK1⟩).mono ?_
  · intro s A B row hs hg' hr
    exact ⟨hI s A B row hs.1 hg' (fun r e => by obtain ⟨hB, o, ho, hm⟩ := hr r e; exact ⟨by omega, o, ho, .inr (.inr hm)⟩), keep hg' hr hs.2.1 (hM1 _), keep hg' hr hs.2.2 (hM2 _)⟩
  · intro s A B row hs hg' hr
    obtain ⟨c, hc, hl, hk⟩ := hs
    exact ⟨c, hIx c s A B row hc hg' (fun r e => by obtain ⟨hB, o, ho, hm⟩ := hr r e; exact ⟨by omega, o, ho, .inr (.inr hm)⟩), keep hg' hr hl (hM1 _), keep hg' hr hk (hM2 _)⟩
  · rintro pre x W ⟨hi, hl, hk⟩ hR
    have hy := run_yield (P := P) (args := encs x) hl (by rw [hrec]; exact hps x)
    rw [hrec] at hy
    refine ⟨fn, _, assign, body, hy, roundIn_of_wpIn hfn (hassign _ pre x W _ hi hR ?_)⟩
    clear hy
    intro a' V hkf hkp hia hax
    have hl' := hkf.same L _ (by omega) hl (.inl ⟨_, rfl⟩)
    have hk' := hkf.same D _ (by omega) hk (.inr (.inl ⟨_, rfl⟩))
    have hlt : L < V.heap.size := (Array.getElem?_eq_some_iff.1 hl').1
    refine ⟨_, run_beginRound hl' (by rw [hrec]), ?_⟩
    obtain ⟨bz, hbz⟩ : ∃ bz : Loop, bz = { rec .ready none with state := .busy } := ⟨_, rfl⟩
    rw [← hbz]
    obtain ⟨V2, hV2⟩ : ∃ V2, V2 = V.putObj L (.loop bz) := ⟨_, rfl⟩
    have hl2 : V2.heap[L]? = some (.loop bz) := by rw [hV2]; exact World.putObj_heap_same hlt
    have hk2 : V2.heap[D]? = some (.deferred (some [])) := by rw [hV2]; exact (World.putObj_heap_other (by omega)).trans hk'
    have hkp2 : Kp V V2 := by rw [hV2]; exact hKb _ _ _ _ (by omega) hl'
    have hi2 : I pre V2 := by rw [hV2]; exact hI.putObj _ hia (by omega) hl' (.inl ⟨_, rfl⟩)
    have hax2 : Ax pre x a' V2 := by rw [hV2]; exact (hAx pre x a').putObj (s := ()) _ hax (by omega) hl' (.inl ⟨_, rfl⟩)
    rw [← hV2]
    refine wpIn_mono (hbody L pre x a' V2 hi2 hax2 hR) ?_
    have fin : ∀ (jump : Option Code) (W3 : World), KpM (Bk Mi) w.heap.size V2 W3 →
        (Instr.endRound L jump).run P W3 = .ok (.bool jump.isNone) (W3.putObj L (.loop (rec (if jump.isNone then .ready else .done) jump))) ∧
        (∃ r, W3.heap[L]? = some (.loop r)) ∧
        (W3.putObj L (.loop (rec (if jump.isNone then .ready else .done) jump))).heap[L]? = some (.loop (rec (if jump.isNone then .ready else .done) jump)) ∧
        (W3.putObj L (.loop (rec (if jump.isNone then .ready else .done) jump))).heap[D]? = some (.deferred (some [])) := fun jump W3 hk3 => by
      have hl3 := hk3.same L _ (by omega) hl2 (.inl ⟨_, rfl⟩)
      have hr3 := run_endRound (P := P) jump hl3
      rw [hbz, hrec] at hr3
      refine ⟨by rw [hrec]; exact hr3, ⟨_, hl3⟩, World.putObj_heap_same (Array.getElem?_eq_some_iff.1 hl3).1, (World.putObj_heap_other (by omega)).trans (hk3.same D _ (by omega) hk2 (.inr (.inl ⟨_, rfl⟩)))⟩
    rintro e a3 W3 hp
    cases e with
    | normal =>
      obtain ⟨hk3, hkp3, hi3⟩ := hp
      obtain ⟨hr, ⟨r3, hl3⟩, hl4, hk4⟩ := fin none W3 hk3
      exact ⟨_, _, hr, .inl ⟨rfl, ⟨hI.putObj _ hi3 (by omega) hl3 (.inl ⟨_, rfl⟩), hl4, hk4⟩, hKt hkp (hKt (hKt hkp2 hkp3) (hKb _ _ _ _ (by omega) hl3))⟩⟩
    | ret =>
      obtain ⟨hk3, hi3⟩ := hp
      obtain ⟨hr, ⟨r3, hl3⟩, hl4, hk4⟩ := fin (some .ret) W3 hk3
      exact ⟨_, _, hr, .inr ⟨rfl, .ret, (hIx _).putObj _ hi3 (by omega) hl3 (.inl ⟨_, rfl⟩), hl4, hk4⟩⟩
    | exit id =>
      obtain ⟨hk3, hi3⟩ := hp
      obtain ⟨hr, ⟨r3, hl3⟩, hl4, hk4⟩ := fin (some (.exit id)) W3 hk3
      exact ⟨_, _, hr, .inr ⟨rfl, .exit id, (hIx _).putObj _ hi3 (by omega) hl3 (.inl ⟨_, rfl⟩), hl4, hk4⟩⟩
    | goto t =>
      obtain ⟨hk3, hi3⟩ := hp
      obtain ⟨hr, ⟨r3, hl3⟩, hl4, hk4⟩ := fin (some (.goto t)) W3 hk3
      exact ⟨_, _, hr, .inr ⟨rfl, .goto t, (hIx _).putObj _ hi3 (by omega) hl3 (.inl ⟨_, rfl⟩), hl4, hk4⟩⟩
    | panic ch => exact hp.elim
    | outgrown => exact hp.elim
  · rintro e W2 ⟨⟨v, rfl⟩, (⟨xs, hS, hi, hl, hk⟩ | ⟨pre, hSp, c, hi, hl, hk⟩)⟩
    · exact ⟨none, _, by have := run_endLoop (P := P) hl (by rw [hrec]; simp); rw [hrec] at this; exact this, hdone D xs _ (by omega) hS (hI.putObj _ hi (by omega) hl (.inl ⟨_, rfl⟩)) ((World.putObj_heap_other (by omega)).trans hk)⟩
    · exact ⟨some c, _, by have := run_endLoop (P := P) hl (by rw [hrec]; simp); rw [hrec] at this; exact this, hstop D c pre _ (by omega) hSp ((hIx c).putObj _ hi (by omega) hl (.inl ⟨_, rfl⟩)) ((World.putObj_heap_other (by omega)).trans hk)⟩
end Go.Proofs.YtejmmjedognaaaaGreat

namespace Go.Proofs.YtejmmjedognaaaaGreat
open Go.RowKit Go.Shelf
open St
attribute [local go_sem] Oper.semAt_some

set_option maxRecDepth 100000 in
set_option maxRecDepth 100000 in
set_option maxHeartbeats 2000000 in
theorem regions_any {w : World} (r : DR) :
    Calls Tryz.prog 61 #[.agg #[.int .i64 r.y.at_, .slice r.y.A r.y.n r.y.c, .int .i64 r.o.at_, .slice r.o.A r.o.n r.o.c, .int .i64 r.size, .int .i64 r.mark, .slice r.F r.fm r.fc, .slice r.R r.rm r.rc, .slice r.H r.hm r.hc]] w fun e w' => e = .returned (.func (.func 94) #[] #[.pointer (some ⟨w.heap.size, 0, none⟩)]) ∧ w' = w.alloc (.cells #[.int .i64 r.y.at_, .slice r.y.A r.y.n r.y.c, .int .i64 r.o.at_, .slice r.o.A r.o.n r.o.c, .int .i64 r.size, .int .i64 r.mark, .slice r.F r.fm r.fc, .slice r.R r.rm r.rc, .slice r.H r.hm r.hc] 28) := by
  go_enter Tryz.func61, Tryz.ntmps61
  go_wp2
  go_ret
  exact ⟨rfl, rfl⟩

def encF (x : FR) : Array Value := #[.agg #[.int .i64 x.at_, .slice x.A x.n x.c]]
set_option maxRecDepth 100000 in
theorem take_fr {rs : List FR} {i : Nat} (h : i < rs.length) : rs.take (i + 1) = rs.take i ++ [rs.getD i FR.zero] := by
  rw [List.take_add_one]
  simp [h]

set_option maxRecDepth 100000 in
set_option maxRecDepth 100000 in
set_option maxHeartbeats 4000000 in
theorem regions1_in (n : Nat) (hn1 : 1 ≤ n) (l B0 n₀ : Nat) (r : DR) (d : Dmp) (hm : r.fm ≤ 1000) (J Jx : List FR → World → Prop) {M : Obj → Prop} {B : Nat} (hAb : AbM M B J)
    (hY : ∀ pre x W, J pre W → (∃ k, pre ++ [x] = (r.y :: r.o :: r.rs).take k) → YieldAt Fence.wide (n - 1) Tryz.prog l #[.agg #[.int .i64 x.at_, .slice x.A x.n x.c]] W fun e W' =>
      (e = .returned (.bool true) ∧ J (pre ++ [x]) W' ∧ Below n₀ W W') ∨ (e = .returned (.bool false) ∧ Jx (pre ++ [x]) W'))
    (W : World) (hx : Bx W B0 r) (hB : B0 < n₀) (hn₀ : n₀ ≤ W.heap.size) (hv0 : ∀ V, Below n₀ W V → DV V r d) (h0 : J [] W) :
    CallsIn Fence.wide n Tryz.prog 94 #[.func (.yield l) #[] #[], .pointer (some ⟨B0, 0, none⟩)] W fun e W' => (∃ v, e = .returned v) ∧
      ((∃ ys, ys = r.y :: r.o :: r.rs ∧ J ys W') ∨ (∃ pre, (∃ k, pre = (r.y :: r.o :: r.rs).take k) ∧ Jx pre W')) := by
  refine callsIn_of_wp Tryz.func94 rfl trivial ?_ rfl
  simp only [Tryz.ntmps94, List.size_toArray, List.length_cons, List.length_nil, Nat.reduceAdd, Nat.reduceSub, Array.replicate_succ, Array.replicate_zero, List.push_toArray, List.append_toArray, List.nil_append, List.cons_append]
  have c0 := hx.c0
  have c1 := hx.c1
  obtain ⟨fn, tmps, assign, body, hy, hR⟩ := hY [] r.y W h0 ⟨1, rfl⟩
  have key : ∀ k, k < r.rs.length → (r.y :: r.o :: r.rs).take (k + 3) = (r.y :: r.o :: r.rs).take (k + 2) ++ [r.rs.getD k FR.zero] := fun k hk => by
    have := take_fr (rs := r.y :: r.o :: r.rs) (i := k + 2) (by simpa using hk)
    simpa using this
  gi_wp2
  refine hR.mono ?_
  rintro e W1 (⟨rfl, hJ1, hk1⟩ | ⟨rfl, hJx1⟩)
  · have x1 := hx.below hk1 hB
    have d2 := x1.c2
    have d3 := x1.c3
    clear c0 c1 hy hR
    obtain ⟨fn, tmps, assign, body, hy, hR⟩ := hY [r.y] r.o W1 hJ1 ⟨2, rfl⟩
    gi_wp2
    refine hR.mono ?_
    rintro e W2 (⟨rfl, hJ2, hk2⟩ | ⟨rfl, hJx2⟩)
    · have x2 := x1.below hk2 hB
      have d6 := x2.c6
      have hk12 := hk1.trans hk2
      have v2 := (hv0 W2 hk12).fs
      have hl : r.rs.length = r.fm := v2.len
      have hfc : r.fc ≤ 9223372036854775807 := v2.cm
      clear d2 d3 hy hR x1
      gi_wp2
      by_cases hF : r.fm = 0
      · rw [hF]
        gi_loopw [20] (fun i wr => i = .int .i64 0 ∧ J [r.y, r.o] wr) (fun _ _ => 0)
        case atStart => exact ⟨rfl, hJ2⟩
        case round =>
          obtain ⟨rfl, hJs⟩ := hrel
          gi_wp2
          go_end0
          have e : r.rs = [] := List.eq_nil_of_length_eq_zero (by omega)
          exact ⟨⟨_, rfl⟩, .inl ⟨_, rfl, by rw [e]; exact hJs⟩⟩
      · obtain ⟨b, o, hA, hbl⟩ := v2.some (by omega)
        rw [hA]
        gi_loopw [20] (fun i wr => ∃ k : Nat, k ≤ r.fm ∧ i = .int .i64 k ∧ J ((r.y :: r.o :: r.rs).take (k + 2)) wr ∧ Below n₀ W wr) (fun i _ => r.fm - (intOf i).toNat)
        case atStart => exact ⟨0, Nat.zero_le _, rfl, hJ2, hk12⟩
        case round =>
          obtain ⟨k, hk, rfl, hJs, hbw⟩ := hrel
          by_cases hlt : k < r.fm
          · have hd1 : decide ((k : Int) < (r.fm : Int)) = true := decide_eq_true (by omega)
            have v3 := (hv0 wr hbw).fs
            rw [hA] at v3
            obtain ⟨y0, y1⟩ := v3.at_ hlt
            have hkey := key k (by omega)
            obtain ⟨f, hf⟩ : ∃ f, f = r.rs.getD k FR.zero := ⟨_, rfl⟩
            rw [← hf] at y0 y1 hkey
            have hJa := hAb.alloc (.cells #[.int .i64 f.at_, .slice f.A f.n f.c] 24) hJs
            obtain ⟨fn, tmps, assign, body, hy, hR⟩ := hY _ f _ hJa ⟨k + 3, hkey.symm⟩
            have hbw2 : Below n₀ wr (wr.alloc (.cells #[.int .i64 f.at_, .slice f.A f.n f.c] 24)) := (Below.refl n₀ wr).alloc (by have := hbw.size; omega) _
            clear hf hY v3 hJa
            gi_wp2
            refine hR.mono ?_
            rintro e W3 (⟨rfl, hJ3, hk3⟩ | ⟨rfl, hJx3⟩)
            · gi_wp2
              go_roundw
              case rel => exact ⟨k + 1, by omega, by simp, by rw [hkey]; exact hJ3, (hbw.trans hbw2).trans hk3⟩
              case measure => simp [intOf]; omega
            · gi_wp2
              refine bodyPost_ret (results_none rfl _ _ _) rfl ?_
              exact ⟨⟨_, rfl⟩, .inr ⟨_, ⟨k + 3, hkey.symm⟩, hJx3⟩⟩
          · have e : k = r.fm := by omega
            subst e
            have hd1 : decide ((r.fm : Int) < (r.fm : Int)) = false := decide_eq_false (by omega)
            gi_wp2
            go_end0
            refine ⟨⟨_, rfl⟩, .inl ⟨_, rfl, ?_⟩⟩
            rw [List.take_of_length_le (by simp; omega)] at hJs
            exact hJs
    · gi_wp2
      refine bodyPost_ret (results_none rfl _ _ _) rfl ?_
      exact ⟨⟨_, rfl⟩, .inr ⟨_, ⟨2, rfl⟩, hJx2⟩⟩
  · gi_wp2
    refine ⟨fun _ h => (by cases h), ?_⟩
    gi_wp2
    refine bodyPost_ret (results_none rfl _ _ _) rfl ?_
    exact ⟨⟨_, rfl⟩, .inr ⟨_, ⟨1, rfl⟩, hJx1⟩⟩
end Go.Proofs.YtejmmjedognaaaaGreat

namespace Go.Proofs.YtejmmjedognaaaaGreat
open Go.RowKit Go.Shelf
open St
attribute [local go_sem] Oper.semAt_some

set_option maxRecDepth 100000 in
theorem nM (Mi : Obj → Prop) (h : ∀ o, ¬ Mi o) (o : Obj) (hb : Bk Mi o) : o.isCells = false := by
  rcases hb with ⟨r, rfl⟩ | ⟨d, rfl⟩ | hm
  · rfl
  · rfl
  · exact (h o hm).elim
set_option maxRecDepth 100000 in
theorem rng_cell {Mi : Obj → Prop} (h : ∀ o, ¬ Mi o) {B : Nat} {W : World} {row : Option Nat} (hr : ∀ r, row = some r → B ≤ r ∧ ∃ o : Obj, W.heap[r]? = some o ∧ Bk Mi o) : ∀ r, row = some r → ∃ o : Obj, W.heap[r]? = some o ∧ o.isCells = false := fun r e => by
  obtain ⟨_, o, ho, hb⟩ := hr r e
  exact ⟨o, ho, nM Mi h o hb⟩
set_option maxRecDepth 100000 in
theorem Zs.kept {q : IntKind} {w w' : World} {A : Option Addr} {n c : Nat} {zs : List Int} {row : Option Nat} (h : Zs q w A n c zs) (hg : w.grownBy w' row) (hr : ∀ r, row = Option.some r → ∃ o : Obj, w.heap[r]? = Option.some o ∧ o.isCells = false) : Zs q w' A n c zs := by
  refine ⟨h.len, h.nc, h.cm, h.wf, fun hn => ?_⟩
  obtain ⟨b, o, e, hlt, hc⟩ := h.el hn
  exact ⟨b, o, e, Nat.lt_of_lt_of_le hlt hg.size, fun j hj => cell_kept (hc j hj) hg hr⟩
set_option maxRecDepth 100000 in
theorem below_grown {B : Nat} {w0 : World} {β : Type} {M : Obj → Prop} {C : Nat} (hC : B ≤ C) (hB : B ≤ w0.heap.size) : AbM (β := β) M C (fun _ W => Below B w0 W) := fun s W W' row hs hg hr =>
  hs.grown hg (Nat.le_trans hB hs.size) (fun k e => by have := (hr k e).1; omega)
set_option maxRecDepth 100000 in
theorem AbM.and {β : Type} {M : Obj → Prop} {B : Nat} {I J : β → World → Prop} (h : AbM M B I) (g : AbM M B J) : AbM M B (fun s W => I s W ∧ J s W) := fun s W W' row hs hg hr => ⟨h s W W' row hs.1 hg hr, g s W W' row hs.2 hg hr⟩
set_option maxRecDepth 100000 in
theorem AbM.pure {β : Type} {M : Obj → Prop} {B : Nat} (p : β → Prop) : AbM M B (fun s (_ : World) => p s) := fun _ _ _ _ hs _ _ => hs
set_option maxRecDepth 100000 in
theorem AbM.blk {β : Type} {M : Obj → Prop} {B : Nat} {t : TypeId} (hM : ∀ v f, ¬ M (.cells v t f)) (b : β → Nat) (vs : β → Array Value) : AbM M B (fun s W => W.heap[b s]? = some (.cells (vs s) t (0, 0))) := fun s W W' row hs hg hr =>
  (hg.block _ (Array.getElem?_eq_some_iff.1 hs).1 (fun e => by
    obtain ⟨_, o, ho, hb⟩ := hr _ e.symm
    rw [hs] at ho
    cases ho
    exact hM _ _ hb)).trans hs
set_option maxRecDepth 100000 in
theorem nobk (v : Array Value) (t : TypeId) (f : Nat × Nat) : ¬ Bk (fun _ => False) (.cells v t f) := by
  rintro (⟨r, e⟩ | ⟨d, e⟩ | h)
  · cases e
  · cases e
  · exact h

set_option maxRecDepth 100000 in
theorem KpM.others {M : Obj → Prop} {B : Nat} {W W' : World} (h : KeepsOthers W W') (hM : ∀ o, M o → o.isCells = false) : KpM M B W W' := ⟨h.size, fun k o _ hk ho => h.same k o hk (hM o ho)⟩
set_option maxRecDepth 100000 in
theorem KpM.below {M : Obj → Prop} {B : Nat} {W W' : World} (h : Below W.heap.size W W') : KpM M B W W' := ⟨h.size, fun k _ _ hk _ => (h.block k (Array.getElem?_eq_some_iff.1 hk).1).trans hk⟩
set_option maxRecDepth 100000 in
theorem Zs.setSlice {q : IntKind} {w : World} {A : Option Addr} {n c : Nat} {zs : List Int} (h : Zs q w A n c zs) {p : Addr} {B : Option Addr} {m e : Nat} (hp : w.cell? p = Option.some (.slice B m e)) (v : Value) : Zs q (w.setCell p v) A n c zs := by
  refine ⟨h.len, h.nc, h.cm, h.wf, fun hn => ?_⟩
  obtain ⟨b, o, e, hlt, hc⟩ := h.el hn
  refine ⟨b, o, e, by simpa using hlt, fun j hj => ?_⟩
  rw [World.cell?_setCell_other w p ⟨b, o + j, none⟩ v (fun e => by
    have h1 := hc j hj
    rw [← e, hp] at h1
    cases h1)]
  exact hc j hj
set_option maxRecDepth 100000 in
theorem take_snoc {rs pre : List FR} {x : FR} (h : ∃ k, pre ++ [x] = rs.take k) : pre.length < rs.length ∧ x = rs.getD pre.length FR.zero := by
  obtain ⟨k, hk⟩ := h
  have h1 := congrArg List.length hk
  rw [List.length_append, List.length_take] at h1
  simp only [List.length_cons, List.length_nil] at h1
  have h2 : pre.length < rs.length := by omega
  refine ⟨h2, ?_⟩
  have h3 : (pre ++ [x])[pre.length]? = some x := by simp
  rw [hk, List.getElem?_take_of_lt (by omega)] at h3
  rw [List.getD_eq_getElem?_getD, h3]
  rfl

set_option maxRecDepth 100000 in
theorem regions_seq (n : Nat) (hn1 : 1 ≤ n) (B0 n₀ : Nat) (r : DR) (d : Dmp) (hm : r.fm ≤ 1000) (w : World) (hx : Bx w B0 r) (hB : B0 < n₀) (hn₀ : n₀ ≤ w.heap.size) (hv0 : ∀ V, Below n₀ w V → DV V r d) :
    SeqM Fence.wide n Tryz.prog 94 #[.pointer (some ⟨B0, 0, none⟩)] encF (fun _ => False) (Below n₀) (fun l => ∃ k, l = (r.y :: r.o :: r.rs).take k) (fun l => l = r.y :: r.o :: r.rs) (fun l => ∃ k, l = (r.y :: r.o :: r.rs).take k) w := by
  intro l J Jx W hW hJ hJx hY h0
  refine (regions1_in n hn1 l B0 n₀ r d hm J Jx hJ hY W ?_ hB (Nat.le_trans hn₀ hW.size) ?_ h0).mono ?_
  · exact hx.below hW (Nat.lt_of_lt_of_le hB hn₀)
  · intro V hV
    exact hv0 V ((hW.mono hn₀).trans hV)
  · rintro e W' ⟨he, hh⟩
    exact ⟨he, hh⟩

set_option maxRecDepth 100000 in
set_option maxRecDepth 100000 in
set_option maxHeartbeats 4000000 in
theorem fromW_any {w : World} {r : DR} {d : Dmp} (h : DV w r d) (hm : r.fm ≤ 1000) (a : Int) (ha : -9223372036854775808 ≤ a ∧ a ≤ 9223372036854775807) :
    Calls Tryz.prog 176 #[.agg #[.int .i64 r.y.at_, .slice r.y.A r.y.n r.y.c, .int .i64 r.o.at_, .slice r.o.A r.o.n r.o.c, .int .i64 r.size, .int .i64 r.mark, .slice r.F r.fm r.fc, .slice r.R r.rm r.rc, .slice r.H r.hm r.hc], .int .i64 a] w (WsP w (atL (d.y :: d.o :: d.fs) a)) := by
  refine (callsIn_wide (n := 3)).1 ?_
  refine callsIn_of_wp_marks Tryz.func176 rfl trivial ?_ rfl
  simp only [Tryz.ntmps176, List.size_toArray, List.length_cons, List.length_nil, Nat.reduceAdd, Nat.reduceSub, Array.replicate_succ, Array.replicate_zero, List.push_toArray, List.append_toArray, List.nil_append, List.cons_append]
  gi_wp2_with ((try refine ⟨trivial, ?_⟩); gi_at_call 61; refine (callsIn_wide.2 (regions_any r)).mono ?_; rintro e w' ⟨rfl, rfl⟩)
  obtain ⟨W0, hW0⟩ : ∃ W0, W0 = (((w.alloc (.cells #[.int .i64 r.y.at_, .slice r.y.A r.y.n r.y.c, .int .i64 r.o.at_, .slice r.o.A r.o.n r.o.c, .int .i64 r.size, .int .i64 r.mark, .slice r.F r.fm r.fc, .slice r.R r.rm r.rc, .slice r.H r.hm r.hc] 63)).alloc (.cells #[.int .i64 a] 3)).alloc (.cells #[.slice none 0 0] 22)).alloc (.cells #[.int .i64 r.y.at_, .slice r.y.A r.y.n r.y.c, .int .i64 r.o.at_, .slice r.o.A r.o.n r.o.c, .int .i64 r.size, .int .i64 r.mark, .slice r.F r.fm r.fc, .slice r.R r.rm r.rc, .slice r.H r.hm r.hc] 28) := ⟨_, rfl⟩
  have hB0 : Below w.heap.size w W0 := by
    rw [hW0]
    exact ((((Below.refl _ w).alloc (Nat.le_refl _) _).alloc (by simp) _).alloc (by simp; omega) _).alloc (by simp; omega) _
  have hs0 : W0.heap.size = w.heap.size + 4 := by rw [hW0]; simp
  have k1 : W0.heap[w.heap.size + 1]? = some (.cells #[.int .i64 a] 3 (0, 0)) := by
    rw [hW0, Below.heap_alloc _ _ _ (by simp), Below.heap_alloc _ _ _ (by simp)]
    have := heap_alloc_new (w.alloc (.cells #[.int .i64 r.y.at_, .slice r.y.A r.y.n r.y.c, .int .i64 r.o.at_, .slice r.o.A r.o.n r.o.c, .int .i64 r.size, .int .i64 r.mark, .slice r.F r.fm r.fc, .slice r.R r.rm r.rc, .slice r.H r.hm r.hc] 63)) (.cells #[.int .i64 a] 3)
    simpa using this
  have k2 : W0.heap[w.heap.size + 2]? = some (.cells #[.slice none 0 0] 22 (0, 0)) := by
    rw [hW0, Below.heap_alloc _ _ _ (by simp)]
    have := heap_alloc_new ((w.alloc (.cells #[.int .i64 r.y.at_, .slice r.y.A r.y.n r.y.c, .int .i64 r.o.at_, .slice r.o.A r.o.n r.o.c, .int .i64 r.size, .int .i64 r.mark, .slice r.F r.fm r.fc, .slice r.R r.rm r.rc, .slice r.H r.hm r.hc] 63)).alloc (.cells #[.int .i64 a] 3)) (.cells #[.slice none 0 0] 22)
    simpa using this
  have k3 : Bx W0 (w.heap.size + 3) r := ⟨by
    rw [hW0]
    have := heap_alloc_new (((w.alloc (.cells #[.int .i64 r.y.at_, .slice r.y.A r.y.n r.y.c, .int .i64 r.o.at_, .slice r.o.A r.o.n r.o.c, .int .i64 r.size, .int .i64 r.mark, .slice r.F r.fm r.fc, .slice r.R r.rm r.rc, .slice r.H r.hm r.hc] 63)).alloc (.cells #[.int .i64 a] 3)).alloc (.cells #[.slice none 0 0] 22)) (.cells #[.int .i64 r.y.at_, .slice r.y.A r.y.n r.y.c, .int .i64 r.o.at_, .slice r.o.A r.o.n r.o.c, .int .i64 r.size, .int .i64 r.mark, .slice r.F r.fm r.fc, .slice r.R r.rm r.rc, .slice r.H r.hm r.hc] 28)
    simpa using this⟩
  have v0 := h.below hB0
  have hlr : (r.y :: r.o :: r.rs).length = r.fm + 2 := by simp [h.fs.len]
  have hlg : (d.y :: d.o :: d.fs).length = r.fm + 2 := by simp [h.fs.lef]
  have hfv : ∀ V, DV V r d → ∀ k, k < r.fm + 2 → FV V ((r.y :: r.o :: r.rs).getD k FR.zero) ((d.y :: d.o :: d.fs).getD k Frg.zero) := fun V hV k hk => by
    match k, hk with
    | 0, _ => exact hV.y
    | 1, _ => exact hV.o
    | k + 2, hk => simpa using hV.fs.fv k (by omega)
  replace hfv := Lib.hid hfv
  rw [show w.heap.size + 1 + 1 = w.heap.size + 2 by omega, show w.heap.size + 2 + 1 = w.heap.size + 3 by omega] at *
  rw [← hW0]
  clear hW0 h
  generalize hgs : d.y :: d.o :: d.fs = gs at *
  have hrrR := regions_seq 2 (by omega) (w.heap.size + 3) W0.heap.size r d hm W0 k3 (by omega) (Nat.le_refl _) (fun V hV => v0.below hV)
  generalize hrr : r.y :: r.o :: r.rs = rr at *
  refine range_m rfl (by omega) (gf := 94) (lb := #[.pointer (some ⟨w.heap.size + 3, 0, none⟩)]) rfl trivial (enters_of Tryz.func94 (by kernel_rfl) rfl)
    hrrR (fun _ h => h) (fun _ h => h) (fun h k => h.trans k) (fun V l r' o' hl hr => (Below.refl _ V).grown (grownBy_putObj' V l o') (by have := (Array.getElem?_eq_some_iff.1 hr).1; omega) (fun k e => by cases e; exact hl))
    (Below.refl _ _) (fun _ => rfl)
    (fun pre W => (pre.length ≤ r.fm + 2 ∧ atL (gs.drop pre.length) a = atL gs a) ∧ Below W0.heap.size W0 W)
    (fun c _ W => (c = .ret ∧ ∃ A n c', W.cell? ⟨w.heap.size + 2, 0, none⟩ = some (.slice A n c') ∧ Zs .u64 W A n c' (atL gs a)) ∧ Below w.heap.size w W)
    (AbM.and (AbM.pure _) (below_grown (Nat.le_refl _) (Nat.le_refl _)))
    (fun c => AbM.and (fun s V V' row hs hg hr => by
      obtain ⟨hc, A, n, c', hb, hz⟩ := hs
      have hr' := rng_cell (fun _ h => h) hr
      exact ⟨hc, A, n, c', cell_kept hb hg hr', hz.kept hg hr'⟩) (below_grown (by omega) (Nat.le_refl _)))
    ⟨⟨Nat.zero_le _, by simp⟩, Below.refl _ _⟩
    (fun pre x a' V => ∃ B, W0.heap.size ≤ B ∧ V.heap[B]? = some (.cells #[.int .i64 x.at_, .slice x.A x.n x.c] 24 (0, 0)) ∧ a' = { tmps := #[.agg #[.int .i64 r.y.at_, .slice r.y.A r.y.n r.y.c, .int .i64 r.o.at_, .slice r.o.A r.o.n r.o.c, .int .i64 r.size, .int .i64 r.mark, .slice r.F r.fm r.fc, .slice r.R r.rm r.rc, .slice r.H r.hm r.hc], .int .i64 a, .pointer (some ⟨w.heap.size, 0, none⟩), .pointer (some ⟨w.heap.size + 1, 0, none⟩), .pointer (some ⟨w.heap.size + 2, 0, none⟩), .pointer (some ⟨B, 0, none⟩), undef, .agg #[.int .i64 r.y.at_, .slice r.y.A r.y.n r.y.c, .int .i64 r.o.at_, .slice r.o.A r.o.n r.o.c, .int .i64 r.size, .int .i64 r.mark, .slice r.F r.fm r.fc, .slice r.R r.rm r.rc, .slice r.H r.hm r.hc], .func (.func 94) #[] #[.pointer (some ⟨w.heap.size + 3, 0, none⟩)], .agg #[.int .i64 x.at_, .slice x.A x.n x.c], undef, undef, undef, undef, undef, undef, undef], defers := [] })
    (fun pre x a' s V V' row hs hg hr => by
      obtain ⟨B, h1, h2, h3⟩ := hs
      exact ⟨B, h1, (hg.block _ (Array.getElem?_eq_some_iff.1 h2).1 (fun e => by
        obtain ⟨o, ho, hoc⟩ := rng_cell (fun _ h => h) hr _ e.symm
        rw [h2] at ho
        cases ho
        cases hoc)).trans h2, h3⟩) ?assign ?body ?done ?stop
  case assign =>
    intro l pre x V K hi hR hK
    unfold encF
    gi_wp2
    have hb : ∀ B, B ≤ V.heap.size → Below B V (V.alloc (.cells #[.int .i64 x.at_, .slice x.A x.n x.c] 24)) := fun B hB => (Below.refl _ V).alloc hB _
    exact hK _ _ (KpM.below (hb _ (Nat.le_refl _))) (hb _ hi.2.size) ⟨hi.1, hi.2.trans (hb _ hi.2.size)⟩ ⟨V.heap.size, hi.2.size, heap_alloc_new V _, rfl⟩
  case body =>
    rintro l pre x a' V ⟨⟨hlen, hat⟩, hbV⟩ ⟨B, hB1, hB2, rfl⟩ hR
    obtain ⟨hpl, hx⟩ := take_snoc hR
    rw [hlr] at hpl
    have hfx := hfv.out V (v0.below hbV) pre.length hpl
    rw [← hx] at hfx
    have HC := Lib.hid (behind_any hfx a ha)
    have hbh := atL_bh (gs.getD pre.length Frg.zero) (gs.drop (pre.length + 1)) a
    have hdc : gs.getD pre.length Frg.zero :: gs.drop (pre.length + 1) = gs.drop pre.length := by
      have := List.drop_eq_getElem_cons (l := gs) (i := pre.length) (by rw [hlg]; exact hpl)
      rw [this]
      simp [hlg, hpl]
    rw [hdc] at hbh
    rw [hat] at hbh
    have q0 : V.cell? ⟨B, 0, none⟩ = some (.int .i64 x.at_) := (cell_of_row V B 0 _ _ (0, 0) hB2).trans rfl
    have q1 : V.cell? ⟨B, 1, none⟩ = some (.slice x.A x.n x.c) := (cell_of_row V B 1 _ _ (0, 0) hB2).trans rfl
    have q3 : V.cell? ⟨w.heap.size + 1, 0, none⟩ = some (.int .i64 a) := (cell_of_row V _ 0 _ _ (0, 0) ((hbV.block _ (by omega)).trans k1)).trans rfl
    clear hfx hx hR
    gi_wp2_with ((try refine ⟨trivial, ?_⟩); gi_at_call 66; refine (CallsIn.inRound l (callsIn_wide.2 HC.out)).mono ?_; rintro e V1 ⟨A1, n1, c1, rfl, hz1, hb1⟩; have k2V := (hb1.block _ (by have := hbV.size; omega)).trans ((hbV.block _ (by omega)).trans k2); have q4 : V1.cell? ⟨w.heap.size + 2, 0, none⟩ = some (.slice none 0 0) := (cell_of_row V1 _ 0 _ _ (0, 0) k2V).trans rfl; have q5 : V1.frozen? ⟨w.heap.size + 2, 0, none⟩ = false := frozen_of_row V1 _ 0 _ _ k2V; have hl1 := hz1.len)
    · rename_i hpos
      have hne : ¬ bhL (gs.getD pre.length Frg.zero) a = [] := fun e => by rw [e] at hl1; simp at hl1; omega
      rw [if_neg hne] at hbh
      refine ⟨(KpM.below hb1).trans (KpM.others (KeepsOthers.setCell _ _ _) (nM _ (fun _ h => h))), ⟨rfl, _, _, _, World.cell?_setCell_same' _ _ _ (by rw [q4]; rfl), by rw [hbh]; exact hz1.setSlice q4 _⟩, ?_⟩
      exact ((hB0.trans (hbV.mono (by omega))).trans (hb1.mono (by have := hbV.size; omega))).setCell (p := ⟨w.heap.size + 2, 0, none⟩) (by simp) _
    · rename_i hpos
      have hne : bhL (gs.getD pre.length Frg.zero) a = [] := List.eq_nil_of_length_eq_zero (by omega)
      rw [if_pos hne] at hbh
      refine ⟨KpM.below hb1, hb1.mono hbV.size, ⟨by simp; omega, ?_⟩, hbV.trans (hb1.mono hbV.size)⟩
      simp only [List.length_append, List.length_cons, List.length_nil]
      exact hbh.symm
  case done =>
    rintro D' xs V hD rfl ⟨⟨_, hat⟩, hbV⟩ hK
    have hZ : atL gs a = [] := by
      rw [← hat, List.drop_of_length_le (by omega)]
      rfl
    have k2V := (hbV.block _ (by omega)).trans k2
    have q4 : V.cell? ⟨w.heap.size + 2, 0, none⟩ = some (.slice none 0 0) := (cell_of_row V _ 0 _ _ (0, 0) k2V).trans rfl
    have q5 : V.frozen? ⟨w.heap.size + 2, 0, none⟩ = false := frozen_of_row V _ 0 _ _ k2V
    gi_wp2
    have hK' := (KeepsOthers.setCell V ⟨w.heap.size + 2, 0, none⟩ (.slice none 0 0)).same D' _ hK rfl
    refine ⟨by simp, .inl ⟨_, _, rfl, run_takeDeferred hK', ?_⟩⟩
    have hc5 := cell_kept (World.cell?_setCell_same' V ⟨w.heap.size + 2, 0, none⟩ (.slice none 0 0) (by rw [q4]; rfl)) (grownBy_putObj' _ D' (.deferred none)) (fun r e => by cases e; exact ⟨_, hK', rfl⟩)
    refine ⟨.slice none 0 0, ?_, none, 0, 0, rfl, by rw [hZ]; exact Zs.nil _ _, ((hB0.trans (hbV.mono (by omega))).setCell (p := ⟨w.heap.size + 2, 0, none⟩) (by simp) _).trans (belowK_b (w := w) (Nat.le_refl _) _ D' _ _ (by omega) hK' rfl rfl)⟩
    simp [results, Tryz.f176, go_sem, hc5]
  case stop =>
    rintro D' c pre V hD hpre ⟨⟨rfl, A1, n1, c1, hcr, hz⟩, hb⟩ hK
    gi_wp2
    refine ⟨by simp, .inl ⟨_, _, rfl, run_takeDeferred hK, ?_⟩⟩
    have hkk : ∀ r', some D' = some r' → ∃ o : Obj, V.heap[r']? = some o ∧ o.isCells = false := fun r' e => by cases e; exact ⟨_, hK, rfl⟩
    have hc5 := cell_kept hcr (grownBy_putObj' _ D' (.deferred none)) hkk
    refine ⟨.slice A1 n1 c1, ?_, A1, n1, c1, rfl, hz.kept (grownBy_putObj' _ D' (.deferred none)) hkk, hb.trans (belowK_b (w := w) (Nat.le_refl _) _ D' _ _ (by omega) hK rfl rfl)⟩
    simp [results, Tryz.f176, go_sem, hc5]
end Go.Proofs.YtejmmjedognaaaaGreat
