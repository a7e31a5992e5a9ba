/-
  ROWS OF LIMBS THAT A CALL HAS MADE, AND NUMBERS AS VALUES.
-/
import Derived.Test.YtejmmjedognaaaaGreatMv9
import Derived.Deep.RegionHeld3
namespace Go.Proofs.YtejmmjedognaaaaGreat
open Go.RowKit

set_option maxRecDepth 100000 in
theorem Lm.digits_take {l : List Nat} (hs : Lm.Small l) : Lm.digits (Lm.val l) = l.take (Lm.digits (Lm.val l)).length := by
  have key : ∀ n, n ≤ l.length → (∀ j, n ≤ j → j < l.length → l.getD j 0 = 0) → ∃ k, k ≤ l.length ∧ Lm.digits (Lm.val l) = l.take k := by
    intro n
    induction n with
    | zero => intro _ hz; exact ⟨0, Nat.zero_le _, Lm.digits_prefix hs 0 (Nat.zero_le _) hz (.inl rfl)⟩
    | succ n ih =>
      intro hn hz
      by_cases h : l.getD n 0 = 0
      · exact ih (by omega) (fun j h1 h2 => by
          by_cases e : j = n
          · rw [e]; exact h
          · exact hz j (by omega) h2)
      · exact ⟨n + 1, hn, Lm.digits_prefix hs (n + 1) hn hz (.inr h)⟩
  obtain ⟨k, hk, e⟩ := key l.length (Nat.le_refl _) (fun j h1 h2 => by omega)
  have : (Lm.digits (Lm.val l)).length = k := by rw [e, List.length_take]; omega
  rw [this]
  exact e

def limbVs (l : List Nat) : List Value := l.map fun x : Nat => Value.int .u32 (x : Int)
set_option maxRecDepth 100000 in
theorem limbVs_len (l : List Nat) : (limbVs l).length = l.length := by simp [limbVs]
set_option maxRecDepth 100000 in
theorem limbVs_take (l : List Nat) (k : Nat) : limbVs (l.take k) = (limbVs l).take k := by simp [limbVs, List.map_take]
set_option maxRecDepth 100000 in
theorem limbVs_get {l : List Nat} {j : Nat} (h : j < l.length) : (limbVs l)[j]? = some (.int .u32 (Lm.lg l j : Nat)) := by simp [limbVs, Lm.lg, h]
set_option maxRecDepth 100000 in
theorem arr_toList (t : List Nat) : (arr t).toList = limbVs t := by simp [arr, limbVs]

/-- The slice 'A, n, c' is a row of the call's own, from block 'base' on, with the limbs l. -/
def Own (w : World) (base : Nat) (A : Option Addr) (n c : Nat) (l : List Nat) : Prop :=
  Lm.Small l ∧ l.length = n ∧ w.ownsRow base 128 1 (.slice A n c) n (limbVs l)

section
variable {w w' : World} {base n c : Nat} {A : Option Addr} {l : List Nat}

set_option maxRecDepth 100000 in
theorem Own.nil (w : World) (base : Nat) : Own w base none 0 0 [] := ⟨Lm.small_nil, rfl, World.ownsRow_nil _ _ _ _⟩

set_option maxRecDepth 100000 in
theorem Own.cap (h : Own w base A n c l) : n ≤ c ∧ c ≤ maxLen := by
  rcases h.2.2.2 with ⟨hv, hn⟩ | ⟨g, cap, cur, hv, _, _, h1, h2, _⟩
  · injection hv with _ _ hc
    subst hc
    exact ⟨by omega, Nat.zero_le _⟩
  · injection hv with _ _ hc
    subst hc
    exact ⟨h1, h2⟩

set_option maxRecDepth 100000 in
theorem Own.lim (h : Own w base A n c l) : Lim w A n c l := by
  refine ⟨h.2.1, h.cap.1, h.1, fun hn => ?_⟩
  rcases h.2.2.2 with ⟨_, h0⟩ | ⟨g, cap, cur, hv, hb, hg, h1, h2, h3, h4⟩
  · omega
  · injection hv with hA _ hc
    subst hA hc
    refine ⟨g, 0, rfl, (Array.getElem?_eq_some_iff.1 hg).1, fun j hj => ?_⟩
    rw [Nat.zero_add, World.ownsRow.cellAt h.2.2 j (by omega), limbVs_get (by rw [h.2.1]; exact hj)]

set_option maxRecDepth 100000 in
theorem Own.below (h : Own w base A n c l) (hb : Below w.heap.size w w') : Own w' base A n c l := by
  refine ⟨h.1, h.2.1, h.2.2.1, ?_⟩
  rcases h.2.2.2 with h0 | ⟨g, cap, cur, hv, hbg, hg, rest⟩
  · exact .inl h0
  · exact .inr ⟨g, cap, cur, hv, hbg, (hb.block g (Array.getElem?_eq_some_iff.1 hg).1).trans hg, rest⟩

set_option maxRecDepth 100000 in
theorem Own.mono {base' : Nat} (h : Own w base A n c l) (hb : base' ≤ base) : Own w base' A n c l := by
  refine ⟨h.1, h.2.1, h.2.2.1, ?_⟩
  rcases h.2.2.2 with h0 | ⟨g, cap, cur, hv, hbg, rest⟩
  · exact .inl h0
  · exact .inr ⟨g, cap, cur, hv, Nat.le_trans hb hbg, rest⟩

set_option maxRecDepth 100000 in
theorem Own.take (h : Own w base A n c l) (k : Nat) (hk : k ≤ n) : Own w base A k c (l.take k) := by
  refine ⟨Lm.small_take h.1 k, by rw [List.length_take, h.2.1]; omega, by rw [limbVs_len, List.length_take, h.2.1]; omega, ?_⟩
  rcases h.2.2.2 with ⟨hv, h0⟩ | ⟨g, cap, cur, hv, hbg, hg, h1, h2, h3, h4⟩
  · injection hv with hA _ hc
    subst hA hc
    have : k = 0 := by omega
    subst this
    exact .inl ⟨rfl, rfl⟩
  · injection hv with hA _ hc
    subst hA hc
    refine .inr ⟨g, _, cur, rfl, hbg, hg, by omega, h2, h3, ?_⟩
    rw [limbVs_take, ← h4, List.take_take]
    congr 1
    omega

set_option maxRecDepth 100000 in
theorem Own.new (w : World) (base : Nat) (t : List Nat) (hs : Lm.Small t) (hb : base ≤ w.heap.size) (hl : t.length ≤ maxLen) :
    Own (w.alloc (.cells (arr t) 128)) base (some ⟨w.heap.size, 0, none⟩) t.length t.length t := by
  refine ⟨hs, rfl, ?_⟩
  have := World.ownsRow_lit (e := 128) (size := 1) w (arr t) t.length hb hl (by rw [arr_size]; omega)
  rw [arr_toList] at this
  exact this
end

/-- A number that has a sign. -/
def sgn (g : Bool) (v : Nat) : Int := if g then -(v : Int) else (v : Int)

/-- The value V is the integer z; its limbs are the call's own, from block 'base' on. -/
def NumV (w : World) (base : Nat) (V : Value) (z : Int) : Prop :=
  ∃ (s : Bool) (A : Option Addr) (n c : Nat), V = .agg #[.bool s, .slice A n c] ∧ Hid (s = decide (z < 0)) ∧ Own w base A n c (Lm.digits z.natAbs)

set_option maxRecDepth 100000 in
theorem NumV.below {w w' : World} {base : Nat} {V : Value} {z : Int} (h : NumV w base V z) (hb : Below w.heap.size w w') : NumV w' base V z := by
  obtain ⟨s, A, n, c, e, hs, ho⟩ := h
  exact ⟨s, A, n, c, e, hs, ho.below hb⟩
set_option maxRecDepth 100000 in
theorem NumV.mono {w : World} {base base' : Nat} {V : Value} {z : Int} (h : NumV w base V z) (hb : base' ≤ base) : NumV w base' V z := by
  obtain ⟨s, A, n, c, e, hs, ho⟩ := h
  exact ⟨s, A, n, c, e, hs, ho.mono hb⟩
set_option maxRecDepth 100000 in
theorem NumV.zero (w : World) (base : Nat) : NumV w base (.agg #[.bool false, .slice none 0 0]) 0 :=
  ⟨false, none, 0, 0, rfl, Lib.hid rfl, by rw [show (0 : Int).natAbs = 0 from rfl, Lm.digits_zero]; exact Own.nil w base⟩

set_option maxRecDepth 100000 in
/-- What 'signed' makes of trimmed limbs. -/
theorem signedV_num {w : World} {base : Nat} {g : Bool} {A : Option Addr} {n c v : Nat} (h : Own w base A n c (Lm.digits v)) : NumV w base (signedV g A n c) (sgn g v) := by
  have hn := h.2.1
  unfold signedV
  by_cases h0 : n = 0
  · rw [if_pos h0]
    have hv : v = 0 := Lm.digits_eq_nil.1 (List.eq_nil_of_length_eq_zero (by omega))
    subst hv
    have : sgn g 0 = 0 := by cases g <;> rfl
    rw [this]
    exact NumV.zero w base
  · rw [if_neg h0]
    have hv : v ≠ 0 := fun e => by rw [e, Lm.digits_zero] at hn; exact h0 hn.symm
    refine ⟨g, A, n, c, rfl, ?_, ?_⟩
    · have : decide (sgn g v < 0) = g := by cases g <;> simp [sgn] <;> omega
      rw [this]
      exact Lib.hid rfl
    · have : (sgn g v).natAbs = v := by cases g <;> simp [sgn]
      rw [this]
      exact h


/-- Block g is a variable of two cells. -/
def Box (w : World) (g : Nat) (x y : Value) : Prop := w.heap[g]? = some (.cells #[x, y] 37 (0, 0))
section
variable {w w' : World} {g : Nat} {x y : Value}
set_option maxRecDepth 100000 in
theorem Box.lt (h : Box w g x y) : g < w.heap.size := (Array.getElem?_eq_some_iff.1 h).1
set_option maxRecDepth 100000 in
theorem Box.c0 (h : Box w g x y) : w.cell? ⟨g, 0, none⟩ = some x := by rw [cell_of_row w g 0 #[x, y] _ (0, 0) h]; rfl
set_option maxRecDepth 100000 in
theorem Box.c1 (h : Box w g x y) : w.cell? ⟨g, 1, none⟩ = some y := by rw [cell_of_row w g 1 #[x, y] _ (0, 0) h]; rfl
set_option maxRecDepth 100000 in
theorem Box.f0 (h : Box w g x y) : w.frozen? ⟨g, 0, none⟩ = false := by unfold Box at h; simp [World.frozen?, h]
set_option maxRecDepth 100000 in
theorem Box.f1 (h : Box w g x y) : w.frozen? ⟨g, 1, none⟩ = false := by unfold Box at h; simp [World.frozen?, h]
set_option maxRecDepth 100000 in
theorem Box.new (w : World) (x y : Value) : Box (w.alloc (.cells #[x, y] 37)) w.heap.size x y := heap_alloc_new w _
set_option maxRecDepth 100000 in
theorem Box.alloc (h : Box w g x y) (o : Obj) : Box (w.alloc o) g x y := (Below.heap_alloc w o g h.lt).trans h
set_option maxRecDepth 100000 in
theorem Box.below {B : Nat} (h : Box w g x y) (hb : Below B w w') (hg : g < B) : Box w' g x y := (hb.block g hg).trans h
set_option maxRecDepth 100000 in
theorem Box.below' (h : Box w g x y) (hb : Below w.heap.size w w') : Box w' g x y := h.below hb h.lt
set_option maxRecDepth 100000 in
theorem Box.drewN (h : Box w g x y) (n : Nat) : Box (w.drewN n) g x y := h
set_option maxRecDepth 100000 in
theorem Box.drew (h : Box w g x y) : Box w.drew g x y := h
set_option maxRecDepth 100000 in
theorem Box.set0 (h : Box w g x y) (u : Value) : Box (w.setCell ⟨g, 0, none⟩ u) g u y := by
  unfold Box at h ⊢
  simp [World.setCell, Array.getElem?_modify, h]
set_option maxRecDepth 100000 in
theorem Box.set1 (h : Box w g x y) (u : Value) : Box (w.setCell ⟨g, 1, none⟩ u) g x u := by
  unfold Box at h ⊢
  simp [World.setCell, Array.getElem?_modify, h]
set_option maxRecDepth 100000 in
theorem Own.box {base n c : Nat} {A : Option Addr} {l : List Nat} (ho : Own w base A n c l) (h : Box w g x y) (i : Nat) (u : Value) : Own (w.setCell ⟨g, i, none⟩ u) base A n c l := by
  refine ⟨ho.1, ho.2.1, ho.2.2.1, ?_⟩
  rcases ho.2.2.2 with h0 | ⟨g', cap, cur, hv, hbg, hg, rest⟩
  · exact .inl h0
  · refine .inr ⟨g', cap, cur, hv, hbg, ?_, rest⟩
    rw [Below.heap_setCell w ⟨g, i, none⟩ u g' ?_]
    · exact hg
    · rintro rfl
      unfold Box at h
      rw [hg] at h
      injection h with h
      injection h with _ ht
      exact absurd ht (by decide)
set_option maxRecDepth 100000 in
theorem NumV.box {base : Nat} {V : Value} {z : Int} (hn : NumV w base V z) (h : Box w g x y) (i : Nat) (u : Value) : NumV (w.setCell ⟨g, i, none⟩ u) base V z := by
  obtain ⟨s, A, n, c, e, hs, ho⟩ := hn
  exact ⟨s, A, n, c, e, hs, ho.box h i u⟩
set_option maxRecDepth 100000 in
theorem Box.far (h : Box w g x y) {p : Addr} (hp : g ≠ p.block) (u : Value) : Box (w.setCell p u) g x y := (Below.heap_setCell w p u g hp).trans h
end
end Go.Proofs.YtejmmjedognaaaaGreat

namespace Go.Proofs.YtejmmjedognaaaaGreat
open Go.RowKit

/-- Integers of at most eight limbs lie below. -/
def Lm.top : Nat := 4294967296 ^ 8
set_option maxRecDepth 100000 in
theorem Lm.top_iff (n : Nat) : (Lm.digits n).length ≤ 8 ↔ n < Lm.top := Lm.digits_length n 8

/-- z, if it has at most eight limbs; else 0. -/
def clip (z : Int) : Int := if z.natAbs < Lm.top then z else 0
/-- Has z at most eight limbs? -/
def fits (z : Int) : Bool := decide (z.natAbs < Lm.top)
set_option maxRecDepth 100000 in
theorem natAbs_sgn (g : Bool) (v : Nat) : (sgn g v).natAbs = v := by cases g <;> simp [sgn]

/-- What a call leaves that answers a number and a bool. -/
def NumPost (w : World) (z : Int) (ok : Bool) (e : Ending) (w' : World) : Prop :=
  ∃ V, e = .returned (.tuple #[V, .bool ok]) ∧ NumV w' w.heap.size V z ∧ Below w.heap.size w w'
def NumPostB (w : World) (base : Nat) (z : Int) (ok : Bool) (e : Ending) (w' : World) : Prop :=
  ∃ V, e = .returned (.tuple #[V, .bool ok]) ∧ NumV w' base V z ∧ Below w.heap.size w w'

/-- What comes in as a number that may be: its limbs are the digits of v. -/
def Arg (w : World) (A : Option Addr) (n c v : Nat) : Prop := Lim w A n c (Lm.digits v) ∧ c ≤ maxLen ∧ n ≤ 1000

set_option maxRecDepth 100000 in
theorem Arg.below {w w' : World} {A : Option Addr} {n c v : Nat} (h : Arg w A n c v) (hb : Below w.heap.size w w') : Arg w' A n c v := ⟨h.1.below hb, h.2⟩
set_option maxRecDepth 100000 in
theorem Arg.alloc {w : World} {A : Option Addr} {n c v : Nat} (h : Arg w A n c v) (o : Obj) : Arg (w.alloc o) A n c v := ⟨h.1.alloc o, h.2⟩

/-- What a call leaves that makes a row of limbs. -/
def RowPost (w : World) (N v : Nat) (e : Ending) (w' : World) : Prop :=
  ∃ A c t, e = .returned (.slice A N c) ∧ Own w' w.heap.size A N c t ∧ Lm.val t = v ∧ Below w.heap.size w w'
set_option maxRecDepth 100000 in
theorem SumPost.row {w : World} {N v : Nat} (hN : N ≤ 100000) {e : Ending} {w' : World} (h : SumPost w N v e w') : RowPost w N v e w' := by
  obtain ⟨t, rfl, rfl, hl, hs, hv⟩ := h
  subst hl
  exact ⟨_, _, t, rfl, Own.new w _ t hs (Nat.le_refl _) (by unfold maxLen; omega), hv, (Below.refl _ _).alloc (Nat.le_refl _) _⟩

set_option maxRecDepth 100000 in
theorem Arg.drew {w : World} {A : Option Addr} {n c v : Nat} (h : Arg w A n c v) : Arg w.drew A n c v := h
set_option maxRecDepth 100000 in
theorem Arg.drewN {w : World} {A : Option Addr} {n c v : Nat} (h : Arg w A n c v) (q : Nat) : Arg (w.drewN q) A n c v := h

set_option maxRecDepth 100000 in
/-- A number is stored into a variable of the call's own. -/
theorem close_num {w w2 : World} {r base base' : Nat} {x y : Value} {s : Bool} {A : Option Addr} {n c : Nat} {z : Int} (zr : Box w2 r x y) (hr : w.heap.size ≤ r) (hbl : Below w.heap.size w w2)
    (hs : Hid (s = decide (z < 0))) (ho : Own w2 base A n c (Lm.digits z.natAbs)) (hbase : base' ≤ base) :
    Box ((w2.setCell ⟨r, 0, none⟩ (.bool s)).setCell ⟨r, 1, none⟩ (.slice A n c)) r (.bool s) (.slice A n c) ∧
    NumV ((w2.setCell ⟨r, 0, none⟩ (.bool s)).setCell ⟨r, 1, none⟩ (.slice A n c)) base' (.agg #[.bool s, .slice A n c]) z ∧
    Below w.heap.size w ((w2.setCell ⟨r, 0, none⟩ (.bool s)).setCell ⟨r, 1, none⟩ (.slice A n c)) := by
  refine ⟨(zr.set0 _).set1 _, ?_, (hbl.setCell (p := ⟨r, 0, none⟩) hr _).setCell (p := ⟨r, 1, none⟩) hr _⟩
  have h1 : NumV w2 base (.agg #[.bool s, .slice A n c]) z := ⟨s, A, n, c, rfl, hs, ho⟩
  exact ((h1.box zr 0 _).box (zr.set0 _) 1 _).mono hbase

end Go.Proofs.YtejmmjedognaaaaGreat
