/-
  WORLDS THAT HAVE TURNED IN SOME BLOCKS ALONE; append, as one step.
-/
import Derived.Test.YtmgikdkcdihdlaaProg
import Derived.WalkKit
import Derived.WalkSpells
import Derived.Lib.Hide
import Derived.Below
import Derived.Deep.RegionLaw
import Derived.Deep.Draws
import Derived.Maps.AppendAt
namespace Go.Proofs.Ytmgikdkcdihdlaa
open Go.RowKit

/-- What has turned lies in K, or is new. -/
structure Chg (K : Nat → Prop) (a b : World) : Prop where
  os : b.os = a.os
  tape : b.tape = a.tape
  output : b.output = a.output
  size : a.heap.size ≤ b.heap.size
  block : ∀ k, k < a.heap.size → ¬ K k → b.heap[k]? = a.heap[k]?
namespace Chg
variable {K K' : Nat → Prop} {a b c : World}
set_option maxRecDepth 100000 in
theorem refl (K : Nat → Prop) (a : World) : Chg K a a := ⟨rfl, rfl, rfl, Nat.le_refl _, fun _ _ _ => rfl⟩
set_option maxRecDepth 100000 in
theorem trans (h : Chg K a b) (g : Chg K' b c) (hk : ∀ k, k < a.heap.size → K' k → K k) : Chg K a c :=
  ⟨g.os.trans h.os, g.tape.trans h.tape, g.output.trans h.output, Nat.le_trans h.size g.size, fun k hk1 hk2 => (g.block k (Nat.lt_of_lt_of_le hk1 h.size) (fun e => hk2 (hk k hk1 e))).trans (h.block k hk1 hk2)⟩
set_option maxRecDepth 100000 in
theorem mono (h : Chg K a b) (hk : ∀ k, k < a.heap.size → K k → K' k) : Chg K' a b := ⟨h.os, h.tape, h.output, h.size, fun k h1 h2 => h.block k h1 fun e => h2 (hk k h1 e)⟩
set_option maxRecDepth 100000 in
theorem grown {r : Option Nat} (h : a.grownBy b r) (hk : ∀ k, r = some k → K k) : Chg K a b := ⟨h.os, h.tape, h.output, h.size, fun k h1 h2 => h.block k h1 fun e => h2 (hk k e.symm)⟩
set_option maxRecDepth 100000 in
theorem below (h : Below a.heap.size a b) : Chg K a b := ⟨h.os, h.tape, h.output, h.size, fun k h1 _ => h.block k h1⟩
set_option maxRecDepth 100000 in
theorem setCell (h : Chg K a b) {p : Addr} (hp : K p.block ∨ a.heap.size ≤ p.block) (v : Value) : Chg K a (b.setCell p v) :=
  ⟨h.os, h.tape, h.output, by simpa using h.size, fun k h1 h2 => (heap_setCell_other b p k v (fun e => by
    rcases hp with hp | hp
    · exact h2 (by simpa [e] using hp)
    · omega)).trans (h.block k h1 h2)⟩
set_option maxRecDepth 100000 in
theorem drewN (h : Chg K a b) (q : Nat) : Chg K a (b.drewN q) := ⟨h.os, h.tape, h.output, h.size, h.block⟩
set_option maxRecDepth 100000 in
theorem toBelow (h : Chg K a b) {B : Nat} (hk : ∀ k, K k → B ≤ k) (hB : B ≤ a.heap.size) : Below B a b := ⟨h.os, h.tape, h.output, h.size, fun k h1 => h.block k (Nat.lt_of_lt_of_le h1 hB) fun e => by have := hk k e; omega⟩
end Chg

set_option maxRecDepth 100000 in
theorem own_of (A : Option Addr) (n c : Nat) : (Value.slice A n c).ownBlock = A.map (·.block) := by cases A <;> rfl

set_option maxRecDepth 100000 in
/-- append, as one step of a region. -/
theorem wpApp {P : Program} {w w' : World} {ops : Array Oper} {rest : List Oper} {o : Oper} {a : Act} {Q : Exit → Act → World → Prop} (hgd : o.guard = none) (s x : Operand) (t : TypeId)
    (ho : o.op = .call { callee := .builtin .append, args := #[s, x], argTypes := #[t, t] }) (v y v' : Value) (hs : a.eval s = v) (hx : a.eval x = y)
    (hrun : (Builtin.append_ #[t, t] o.type #[v, y]).run P w = .ok v' w') (h : wpList P ops Q rest (a.put o.dst v') w') : wpList P ops Q (o :: rest) a w := by
  refine wpList_plain hgd fun K hK' => ?_
  unfold Oper.wp
  simp [execOp, ho, resolve, invoke, builtin, hs, hx, hrun, Result.andThen]
  exact hK' _ _ h

set_option maxRecDepth 100000 in
/-- append, as one step of a region that draws. -/
theorem step_app {P : Program} {ops : Array Oper} {o : Oper} {a : Act} {w w' : World} {K : Act → World → Prop} {Q : Exit → Act → World → Prop} {E : Prop}
    (hg : o.guard = none) (s x : Operand) (t : TypeId) (hop : o.op = Op.call { callee := Callee.builtin Builtin.append, args := #[s, x], argTypes := #[t, t] })
    (v y v' : Value) (hs : a.eval s = v) (hx : a.eval x = y) (hrun : (Builtin.append_ #[t, t] o.type #[v, y]).run P w = .ok v' w')
    (hK : K (a.put o.dst v') w') : if Region.wanted o (yielded ops a.tmps) = true then Oper.wp P o a w K Q else E := by
  have hw : Region.wanted o (yielded ops a.tmps) = true := by simp [Region.wanted, hg]
  rw [if_pos hw]
  unfold Oper.wp
  simp [execOp, hop, resolve, invoke, builtin, hs, hx, hrun, Result.andThen]
  exact hK
end Go.Proofs.Ytmgikdkcdihdlaa
