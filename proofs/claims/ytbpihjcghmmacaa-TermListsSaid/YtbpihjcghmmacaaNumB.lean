import Derived.Test.YtbpihjcghmmacaaOwn
import Derived.Deep.RegionHeld3
namespace Go.Proofs.Ytbpihjcghmmacaa
open Go.RowKit

/-- Integers of at most eight limbs lie below. -/
def Lm.top : Nat := 4294967296 ^ 8
theorem Lm.top_iff (n : Nat) : (Lm.digits n).length ≤ 8 ↔ n < Lm.top := Lm.digits_length n 8

/-- z, if it has at most eight limbs; else 0. -/
def clip (z : Int) : Int := if z.natAbs < Lm.top then z else 0
/-- Has z at most eight limbs? -/
def fits (z : Int) : Bool := decide (z.natAbs < Lm.top)
theorem natAbs_sgn (g : Bool) (v : Nat) : (sgn g v).natAbs = v := by cases g <;> simp [sgn]

theorem trimmed_at (w : World) (A : Option Addr) (n c : Nat) (l : List Nat) (k : Nat) (h : Lim w A n c l) (hn : c ≤ maxLen) (hk : Hid (k = (Lm.digits (Lm.val l)).length)) :
    Calls Try.prog 52 #[.slice A n c] w fun e w' => e = .returned (.slice A k c) ∧ w = w' := by
  rw [hk.out]
  exact trimmed_any w A n c l h hn

/-- What a call leaves that answers a number and a bool. -/
def NumPost (w : World) (z : Int) (ok : Bool) (e : Ending) (w' : World) : Prop :=
  ∃ V, e = .returned (.tuple #[V, .bool ok]) ∧ NumV w' w.heap.size V z ∧ Below w.heap.size w w'
def NumPostB (w : World) (base : Nat) (z : Int) (ok : Bool) (e : Ending) (w' : World) : Prop :=
  ∃ V, e = .returned (.tuple #[V, .bool ok]) ∧ NumV w' base V z ∧ Below w.heap.size w w'

theorem signed_num (w : World) (base : Nat) (g : Bool) (A : Option Addr) (n c v : Nat) (h : Own w base A n c (Lm.digits v)) :
    Calls Try.prog 51 #[.bool g, .slice A n c] w fun e w' => ∃ V, e = .returned V ∧ NumV w' base V (sgn g v) ∧ Below w.heap.size w w' :=
  (signed_any w g A n c).mono fun _ _ ⟨he, hb⟩ => ⟨_, he, (signedV_num h).below hb, hb⟩

/-- What comes in as a number that may be: its limbs are the digits of v. -/
def Arg (w : World) (A : Option Addr) (n c v : Nat) : Prop := Lim w A n c (Lm.digits v) ∧ c ≤ maxLen ∧ n ≤ 1000

theorem Arg.below {w w' : World} {A : Option Addr} {n c v : Nat} (h : Arg w A n c v) (hb : Below w.heap.size w w') : Arg w' A n c v := ⟨h.1.below hb, h.2⟩
theorem Arg.alloc {w : World} {A : Option Addr} {n c v : Nat} (h : Arg w A n c v) (o : Obj) : Arg (w.alloc o) A n c v := ⟨h.1.alloc o, h.2⟩

/-- What a call leaves that makes a row of limbs. -/
def RowPost (w : World) (N v : Nat) (e : Ending) (w' : World) : Prop :=
  ∃ A c t, e = .returned (.slice A N c) ∧ Own w' w.heap.size A N c t ∧ Lm.val t = v ∧ Below w.heap.size w w'
theorem SumPost.row {w : World} {N v : Nat} (hN : N ≤ 100000) {e : Ending} {w' : World} (h : SumPost w N v e w') : RowPost w N v e w' := by
  obtain ⟨t, rfl, rfl, hl, hs, hv⟩ := h
  subst hl
  exact ⟨_, _, t, rfl, Own.new w _ t hs (Nat.le_refl _) (by unfold maxLen; omega), hv, (Below.refl _ _).alloc (Nat.le_refl _) _⟩

theorem Arg.drew {w : World} {A : Option Addr} {n c v : Nat} (h : Arg w A n c v) : Arg w.drew A n c v := h
theorem Arg.drewN {w : World} {A : Option Addr} {n c v : Nat} (h : Arg w A n c v) (q : Nat) : Arg (w.drewN q) A n c v := h

/-- A number is stored into a variable of the call's own. -/
theorem close_num {w w2 : World} {r base base' : Nat} {x y : Value} {s : Bool} {A : Option Addr} {n c : Nat} {z : Int} (zr : Box w2 r x y) (hr : w.heap.size ≤ r) (hbl : Below w.heap.size w w2)
    (hs : Hid (s = decide (z < 0))) (ho : Own w2 base A n c (Lm.digits z.natAbs)) (hbase : base' ≤ base) :
    Box ((w2.setCell ⟨r, 0, none⟩ (.bool s)).setCell ⟨r, 1, none⟩ (.slice A n c)) r (.bool s) (.slice A n c) ∧
    NumV ((w2.setCell ⟨r, 0, none⟩ (.bool s)).setCell ⟨r, 1, none⟩ (.slice A n c)) base' (.agg #[.bool s, .slice A n c]) z ∧
    Below w.heap.size w ((w2.setCell ⟨r, 0, none⟩ (.bool s)).setCell ⟨r, 1, none⟩ (.slice A n c)) := by
  refine ⟨(zr.set0 _).set1 _, ?_, (hbl.setCell (p := ⟨r, 0, none⟩) hr _).setCell (p := ⟨r, 1, none⟩) hr _⟩
  have h1 : NumV w2 base (.agg #[.bool s, .slice A n c]) z := ⟨s, A, n, c, rfl, hs, ho⟩
  exact ((h1.box zr 0 _).box (zr.set0 _) 1 _).mono hbase

end Go.Proofs.Ytbpihjcghmmacaa
