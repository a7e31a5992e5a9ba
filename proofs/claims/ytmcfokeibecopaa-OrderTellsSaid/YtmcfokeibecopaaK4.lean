/-
  NUMBERS AS RECORDS; WHAT A LAW HOLDS WHILE IT RUNS: variables that hold numbers, and numbers beside them.
  CONTRACTS OF LendLimbs, KeptLimbs, OverLimbs (beehivelaw0).
  CONTRACTS OF LendLimbs, KeptLimbs, OverLimbs (beehivelaw0): the walks.
  THE CONTRACTS OF PACKAGE num AND OF THE LAWS' OWN FUNCTIONS, SIDE BY SIDE, AT NUMBERS OF ANY LIMBS.
-/
import Derived.Test.YtmcfokeibecopaaK2
import Derived.Deep.DeepCutAuto
import Derived.Test.YtmcfokeibecopaaK3
namespace Go.Proofs.Ytmcfokeibecopaa
open Go.RowKit

set_option maxRecDepth 100000 in
theorem lit_nm (w : World) : Nm (w.alloc (.cells #[.int .u32 0, .int .u32 0, .int .u32 65536] 60)) true (some ⟨w.heap.size, 0, none⟩) 3 3 ((-1099511627776 : Int) * 1099511627776) := by
  have hs : Lm.Small [0, 0, 65536] := by intro x hx; simp at hx; omega
  have hc : Lm.Canon [0, 0, 65536] := by intro _; decide
  have e : Lm.digits ((-1099511627776 : Int) * 1099511627776).natAbs = [0, 0, 65536] := by
    have := Lm.digits_val hs hc
    rw [← this]
    congr 1
  refine ⟨?_, Lib.hid rfl⟩
  rw [e]
  exact ⟨Lim.new w [0, 0, 65536] hs, by decide⟩

end Go.Proofs.Ytmcfokeibecopaa

namespace Go.Proofs.Ytmcfokeibecopaa
open Go.RowKit

/-- A number in memory: its sign, its slice, and what it comes to. -/
structure NumR where
  s : Bool
  A : Option Addr
  n : Nat
  c : Nat
  z : Int

/-- The record tells the truth, and the number has at most eight limbs. -/
def Nt (w : World) (r : NumR) : Prop := Nm w r.s r.A r.n r.c r.z ∧ r.z.natAbs < Lm.top
set_option maxRecDepth 100000 in
theorem Nt.below {w w' : World} {r : NumR} (h : Nt w r) (hb : Below w.heap.size w w') : Nt w' r := ⟨h.1.below hb, h.2⟩

/-- Its limbs lie in a row of limbs. -/
def Typ (w : World) (r : NumR) : Prop := ∀ b o, r.A = some ⟨b, o, none⟩ → 0 < r.n → ∃ cs f, w.heap[b]? = some (.cells cs 60 f)
/-- Its limbs came in, or lie in a row of limbs. -/
def Sep (w0 w : World) (r : NumR) : Prop := ∀ b o, r.A = some ⟨b, o, none⟩ → 0 < r.n → b < w0.heap.size ∨ ∃ cs f, w.heap[b]? = some (.cells cs 60 f)
set_option maxRecDepth 100000 in
theorem Sep.below {w0 w w' : World} {r : NumR} (h : Sep w0 w r) (hb : Below w.heap.size w w') : Sep w0 w' r := fun b o e hn => by
  rcases h b o e hn with h1 | ⟨cs, f, h1⟩
  · exact .inl h1
  · exact .inr ⟨cs, f, (hb.block b (Array.getElem?_eq_some_iff.1 h1).1).trans h1⟩
set_option maxRecDepth 100000 in
theorem Typ.sep {w0 w : World} {r : NumR} (h : Typ w r) : Sep w0 w r := fun b o e hn => .inr (h b o e hn)
set_option maxRecDepth 100000 in
theorem Nt.sep {w : World} {r : NumR} (h : Nt w r) : Sep w w r := fun b o e hn => by
  obtain ⟨b', o', e', hlt, _⟩ := h.1.1.1.2.2.2 hn
  rw [e] at e'
  injection e' with e'
  injection e' with e1
  exact .inl (by omega)
set_option maxRecDepth 100000 in
theorem sep_ne {w0 w : World} {r : NumR} {g b o : Nat} {x y : Value} (h : Sep w0 w r) (hx : Box w g x y) (hg : w0.heap.size ≤ g) (e : r.A = some ⟨b, o, none⟩) (hn : 0 < r.n) : b ≠ g := by
  rintro rfl
  rcases h b o e hn with h1 | ⟨cs, f, h1⟩
  · omega
  · unfold Box at hx
    rw [h1] at hx
    injection hx with hx
    injection hx with _ ht
    exact absurd ht (by decide)
set_option maxRecDepth 100000 in
theorem Nt.box {w0 w : World} {r : NumR} {g : Nat} {x y : Value} (h : Nt w r) (hs : Sep w0 w r) (hx : Box w g x y) (hg : w0.heap.size ≤ g) (i : Nat) (u : Value) : Nt (w.setCell ⟨g, i, none⟩ u) r := by
  refine ⟨⟨⟨⟨h.1.1.1.1, h.1.1.1.2.1, h.1.1.1.2.2.1, fun hn => ?_⟩, h.1.1.2⟩, h.1.2⟩, h.2⟩
  obtain ⟨b, o, e, hlt, hc⟩ := h.1.1.1.2.2.2 hn
  have hne := sep_ne hs hx hg e hn
  refine ⟨b, o, e, by simpa [World.setCell] using hlt, fun j hj => ?_⟩
  rw [World.cell?_of_block (w := w) (Below.heap_setCell w ⟨g, i, none⟩ u b hne)]
  exact hc j hj
set_option maxRecDepth 100000 in
theorem Sep.box {w0 w : World} {r : NumR} {g : Nat} {x y : Value} (hs : Sep w0 w r) (hx : Box w g x y) (hg : w0.heap.size ≤ g) (i : Nat) (u : Value) : Sep w0 (w.setCell ⟨g, i, none⟩ u) r := fun b o e hn => by
  have hne := sep_ne hs hx hg e hn
  rcases hs b o e hn with h1 | ⟨cs, f, h1⟩
  · exact .inl h1
  · exact .inr ⟨cs, f, (Below.heap_setCell w ⟨g, i, none⟩ u b hne).trans h1⟩

/-- What is kept: nothing that was there has changed; the numbers ts stand; the variables bs hold theirs. -/
structure Env (w0 : World) (ts : List NumR) (bs : List (Nat × NumR)) (w : World) : Prop where
  bl : Below w0.heap.size w0 w
  nt : ∀ r ∈ ts, Nt w r
  sp : ∀ r ∈ ts, Sep w0 w r
  bx : ∀ x ∈ bs, Box w x.1 (.bool x.2.s) (.slice x.2.A x.2.n x.2.c)
section
variable {w0 w w' : World} {ts : List NumR} {bs : List (Nat × NumR)} {r : NumR} {g : Nat}
set_option maxRecDepth 100000 in
theorem Env.below (K : Env w0 ts bs w) (hb : Below w.heap.size w w') : Env w0 ts bs w' :=
  ⟨K.bl.trans (hb.mono K.bl.size), fun r hr => (K.nt r hr).below hb, fun r hr => (K.sp r hr).below hb, fun x hx => (K.bx x hx).below' hb⟩
set_option maxRecDepth 100000 in
theorem Env.drew (K : Env w0 ts bs w) : Env w0 ts bs w.drew := K.below (Below.refl _ _).drew
set_option maxRecDepth 100000 in
theorem Env.alloc (K : Env w0 ts bs w) (o : Obj) : Env w0 ts bs (w.alloc o) := K.below ((Below.refl _ _).alloc (Nat.le_refl _) o)
set_option maxRecDepth 100000 in
theorem Env.push (K : Env w0 ts bs w) (h : Nt w r) (ht : Typ w r) : Env w0 (r :: ts) bs w := ⟨K.bl, fun x hx => by
  rcases List.mem_cons.1 hx with rfl | hx
  · exact h
  · exact K.nt x hx, fun x hx => by
  rcases List.mem_cons.1 hx with rfl | hx
  · exact ht.sep
  · exact K.sp x hx, K.bx⟩
set_option maxRecDepth 100000 in
theorem Env.new (K : Env w0 ts bs w) (r : NumR) : Env w0 ts ((w.heap.size, r) :: bs) (w.alloc (.cells #[.bool r.s, .slice r.A r.n r.c] 24)) := by
  have K' := K.alloc (.cells #[.bool r.s, .slice r.A r.n r.c] 24)
  refine ⟨K'.bl, K'.nt, K'.sp, fun x hx => ?_⟩
  rcases List.mem_cons.1 hx with rfl | hx
  · exact Box.new w _ _
  · exact K'.bx x hx
set_option maxRecDepth 100000 in
theorem Env.drop2 {r' : NumR} (K : Env w0 (r :: r' :: ts) bs w) : Env w0 (r :: ts) bs w :=
  ⟨K.bl, fun x hx => K.nt x (by rcases List.mem_cons.1 hx with rfl | h; exact List.mem_cons_self; exact List.mem_cons_of_mem _ (List.mem_cons_of_mem _ h)), fun x hx => K.sp x (by rcases List.mem_cons.1 hx with rfl | h; exact List.mem_cons_self; exact List.mem_cons_of_mem _ (List.mem_cons_of_mem _ h)), K.bx⟩
set_option maxRecDepth 100000 in
theorem Env.lt (K : Env w0 ts bs w) (h : (g, r) ∈ bs) : g < w.heap.size := (K.bx _ h).lt
set_option maxRecDepth 100000 in
theorem Env.c0 (K : Env w0 ts bs w) (h : (g, r) ∈ bs) : w.cell? ⟨g, 0, none⟩ = some (.bool r.s) := (K.bx _ h).c0
set_option maxRecDepth 100000 in
theorem Env.c1 (K : Env w0 ts bs w) (h : (g, r) ∈ bs) : w.cell? ⟨g, 1, none⟩ = some (.slice r.A r.n r.c) := (K.bx _ h).c1
set_option maxRecDepth 100000 in
theorem Env.store0 {x y : Value} (K : Env w0 ts bs w) (hx : Box w g x y) (hg : w0.heap.size ≤ g) (hne : ∀ x ∈ bs, x.1 ≠ g) (i : Nat) (u : Value) : Env w0 ts bs (w.setCell ⟨g, i, none⟩ u) :=
  ⟨K.bl.setCell (p := ⟨g, i, none⟩) hg u, fun r hr => (K.nt r hr).box (K.sp r hr) hx hg i u, fun r hr => (K.sp r hr).box hx hg i u, fun z hz => (K.bx z hz).far (p := ⟨g, i, none⟩) (hne z hz) u⟩
set_option maxRecDepth 100000 in
/-- A number is stored into a variable that has just been made. -/
theorem Env.store {x y : Value} (K : Env w0 ts bs w) (hx : Box w g x y) (hg : w0.heap.size ≤ g) (hne : ∀ x ∈ bs, x.1 ≠ g) (r : NumR) :
    Env w0 ts ((g, r) :: bs) ((w.setCell ⟨g, 0, none⟩ (.bool r.s)).setCell ⟨g, 1, none⟩ (.slice r.A r.n r.c)) := by
  have K' := (K.store0 hx hg hne 0 (.bool r.s)).store0 (hx.set0 _) hg hne 1 (.slice r.A r.n r.c)
  refine ⟨K'.bl, K'.nt, K'.sp, fun z hz => ?_⟩
  rcases List.mem_cons.1 hz with rfl | hz
  · exact (hx.set0 _).set1 _
  · exact K'.bx z hz
end

set_option maxRecDepth 100000 in
theorem clip_top (z : Int) : (clip z).natAbs < Lm.top := by
  unfold clip
  by_cases h : z.natAbs < Lm.top
  · rw [if_pos h]; exact h
  · rw [if_neg h]; decide

/-- What a call leaves that answers a number; a number and a bool. -/
def RetNum (w : World) (z : Int) (e : Ending) (w' : World) : Prop :=
  ∃ r : NumR, e = .returned (.agg #[.bool r.s, .slice r.A r.n r.c]) ∧ r.z = z ∧ Nt w' r ∧ Typ w' r ∧ Below w.heap.size w w'
def RetNumB (w : World) (z : Int) (ok : Bool) (e : Ending) (w' : World) : Prop :=
  ∃ r : NumR, e = .returned (.tuple #[.agg #[.bool r.s, .slice r.A r.n r.c], .bool ok]) ∧ r.z = z ∧ Nt w' r ∧ Typ w' r ∧ Below w.heap.size w w'
set_option maxRecDepth 100000 in
theorem own_typ {w : World} {base n c : Nat} {s : Bool} {A : Option Addr} {l : List Nat} {z : Int} (ho : Own w base A n c l) : Typ w ⟨s, A, n, c, z⟩ := fun b o e hn => by
  simp only at e hn
  rcases ho.2.2.2 with ⟨_, h0⟩ | ⟨g, cap, cur, hv, _, hg, _⟩
  · omega
  · injection hv with hA
    rw [e] at hA
    injection hA with hA
    injection hA with hA
    subst hA
    exact ⟨cur, _, hg⟩
set_option maxRecDepth 100000 in
theorem OnePost.ret {w w' : World} {z : Int} {e : Ending} (h : OnePost w z e w') (ht : z.natAbs < Lm.top) : RetNum w z e w' := by
  obtain ⟨_, rfl, ⟨s, A, n, c, rfl, hs, ho⟩, hb⟩ := h
  exact ⟨⟨s, A, n, c, z⟩, rfl, rfl, ⟨Nm.of_own hs ho, ht⟩, own_typ ho, hb⟩
set_option maxRecDepth 100000 in
theorem NumPost.ret {w w' : World} {z : Int} {ok : Bool} {e : Ending} (h : NumPost w z ok e w') (ht : z.natAbs < Lm.top) : RetNumB w z ok e w' := by
  obtain ⟨_, rfl, ⟨s, A, n, c, rfl, hs, ho⟩, hb⟩ := h
  exact ⟨⟨s, A, n, c, z⟩, rfl, rfl, ⟨Nm.of_own hs ho, ht⟩, own_typ ho, hb⟩

section
variable (w : World) (r r' : NumR) (h : Nt w r) (h' : Nt w r')
include h h'
set_option maxRecDepth 100000 in
theorem cmp_r : Calls Try.prog 57 #[.agg #[.bool r.s, .slice r.A r.n r.c], .agg #[.bool r'.s, .slice r'.A r'.n r'.c]] w (IntPost w (cmpZ r.z r'.z)) :=
  cmp_z w _ _ _ _ _ _ _ _ _ _ h.1 h'.1 h.2 h'.2
set_option maxRecDepth 100000 in
theorem same_r : Calls Try.prog 42 #[.agg #[.bool r.s, .slice r.A r.n r.c], .agg #[.bool r'.s, .slice r'.A r'.n r'.c]] w fun e w' => e = .returned (.bool (decide (r.z = r'.z))) ∧ Below w.heap.size w w' :=
  same_z w _ _ _ _ _ _ _ _ _ _ h.1 h'.1
end
section
variable (w : World) (r : NumR) (h : Nt w r)
include h
set_option maxRecDepth 100000 in
theorem may_r : Calls Try.prog 44 #[.agg #[.bool r.s, .slice r.A r.n r.c]] w fun e w' => e = .returned (.bool true) ∧ Below w.heap.size w w' :=
  may_z w _ _ _ _ _ h.1 h.2
end
set_option maxRecDepth 100000 in
theorem of_r (w : World) (z : Int) (h1 : -9223372036854775808 ≤ z) (h2 : z ≤ 9223372036854775807) : Calls Try.prog 26 #[.int .i64 z] w (RetNum w z) :=
  (of_any w z h1 h2).mono fun _ _ hp => hp.ret (by have := Lm.top_ge; omega)

set_option maxRecDepth 100000 in
theorem Nt.len {w : World} {r : NumR} (h : Nt w r) : r.n ≤ 8 := by
  have h1 := (Lm.top_iff _).2 h.2
  rw [h.1.1.1.1] at h1
  exact h1
end Go.Proofs.Ytmcfokeibecopaa

namespace Go.Proofs.Ytmcfokeibecopaa
open Go.RowKit

set_option maxRecDepth 100000 in
/-- append(row, limbs...): what it changes is the row alone. -/
theorem append_grown (w : World) (base : Nat) (A0 : Option Addr) (n0 c0 : Nat) (l0 : List Nat) (hown : Own w base A0 n0 c0 l0) (ad : Addr) (n c : Nat) (l : List Nat) (h : Lim w (some ad) n c l) (hn : n0 + n ≤ 100000) (hbase : base ≤ w.heap.size) (ty : TypeId) :
    ∃ v' w', (Builtin.append_ #[22, 22] ty #[.slice A0 n0 c0, .slice (some ad) n c]).run Try.prog w = .ok v' w' ∧ w.grownBy w' (Value.slice A0 n0 c0).ownBlock := by
  obtain ⟨i, hi, hz, hs, hb⟩ := info_limb'
  have hcells : ∀ j u, (limbVs l)[j]? = some u → w.cell? (ad.add j) = some u := by
    intro j u hu
    have hj : j < l.length := by
      rcases Nat.lt_or_ge j l.length with hj | hj
      · exact hj
      · rw [List.getElem?_eq_none (by rw [limbVs_len]; exact hj)] at hu; cases hu
    obtain ⟨b, o, e, _, hc⟩ := h.2.2.2 (by have := h.1; omega)
    injection e with e
    subst e
    rw [limbVs_get hj] at hu
    injection hu with hu
    subst hu
    have hadd : (⟨b, o, none⟩ : Addr).add j = ⟨b, o + j, none⟩ := by unfold Addr.add; split <;> simp_all
    rw [hadd]
    exact hc j (by have := h.1; omega)
  have h1 : ∀ u ∈ limbVs l, u.oneCell' = true := by
    intro u hu
    simp only [limbVs, List.mem_map] at hu
    obtain ⟨x, _, rfl⟩ := hu
    rfl
  obtain ⟨v', w', hrun, _, hg, _⟩ := run_append_own (P := Try.prog) w base 22 ty 60 i (.int .u32 0) 1 4 und_limbs hi hz hs hb rfl (by decide) (.slice A0 n0 c0) n0 (limbVs l0) hown.2.2 ad n c (limbVs l) (by rw [limbVs_len, h.1]; omega) hcells h1 (by unfold maxLen; omega) (by omega) hbase
  exact ⟨v', w', hrun, hg⟩

/-- Block g is a row of limbs of a given room, none of them frozen. -/
def Rw (w : World) (g N : Nat) (cs : Array Value) : Prop := w.heap[g]? = some (.cells cs 60 (0, 0)) ∧ cs.size = N
section
variable {w w' : World} {g N : Nat} {cs : Array Value}
set_option maxRecDepth 100000 in
theorem Rw.lt (h : Rw w g N cs) : g < w.heap.size := (Array.getElem?_eq_some_iff.1 h.1).1
set_option maxRecDepth 100000 in
theorem Rw.cell (h : Rw w g N cs) (i : Nat) : w.cell? ⟨g, i, none⟩ = cs[i]? := cell_of_row w g i cs _ (0, 0) h.1
set_option maxRecDepth 100000 in
theorem Rw.fz (h : Rw w g N cs) (i : Nat) : w.frozen? ⟨g, i, none⟩ = false := by have := h.1; simp [World.frozen?, this]
set_option maxRecDepth 100000 in
theorem Rw.some (h : Rw w g N cs) {i : Nat} (hi : i < N) : ∃ u, w.cell? ⟨g, i, none⟩ = some u := by
  rw [h.cell, Array.getElem?_eq_getElem (by rw [h.2]; exact hi)]
  exact ⟨_, rfl⟩
set_option maxRecDepth 100000 in
theorem Rw.set (h : Rw w g N cs) (i : Nat) (u : Value) : Rw (w.setCell ⟨g, i, none⟩ u) g N (cs.setIfInBounds i u) := by
  refine ⟨?_, by rw [Array.size_setIfInBounds]; exact h.2⟩
  have := h.1
  simp [World.setCell, Array.getElem?_modify, this]
set_option maxRecDepth 100000 in
theorem Rw.drewN (h : Rw w g N cs) (q : Nat) : Rw (w.drewN q) g N cs := h
end

/-- Limbs that are lent: behind them stand three marks. -/
def Lent (w : World) (g n : Nat) (l : List Nat) : Prop :=
  l.length = n ∧ Lm.Small l ∧ g < w.heap.size ∧ (∀ j, j < n → w.cell? ⟨g, j, none⟩ = some (.int .u32 (Lm.lg l j : Nat))) ∧ ∀ i, i < 3 → w.cell? ⟨g, n + i, none⟩ = some (.int .u32 30583)
set_option maxRecDepth 100000 in
theorem Lent.raw {w : World} {g n : Nat} {l : List Nat} (h : Lent w g n l) (hn : n ≤ 1000) : Raw w (some ⟨g, 0, none⟩) n (n + 3) l :=
  ⟨⟨h.1, by omega, h.2.1, fun _ => ⟨g, 0, rfl, h.2.2.1, fun j hj => by rw [Nat.zero_add]; exact h.2.2.2.1 j hj⟩⟩, by unfold maxLen; omega⟩
set_option maxRecDepth 100000 in
theorem Lent.keep {w w' : World} {g n : Nat} {l : List Nat} (h : Lent w g n l) (hs : w.heap.size ≤ w'.heap.size) (hb : w'.heap[g]? = w.heap[g]?) : Lent w' g n l :=
  ⟨h.1, h.2.1, Nat.lt_of_lt_of_le h.2.2.1 hs, fun j hj => (World.cell?_of_block (w := w) (a := ⟨g, j, none⟩) hb).trans (h.2.2.2.1 j hj), fun i hi => (World.cell?_of_block (w := w) (a := ⟨g, n + i, none⟩) hb).trans (h.2.2.2.2 i hi)⟩
set_option maxRecDepth 100000 in
theorem Lent.below {w w' : World} {g n : Nat} {l : List Nat} (h : Lent w g n l) (hb : Below w.heap.size w w') : Lent w' g n l := h.keep hb.size (hb.block g h.2.2.1)

/-- What LendLimbs leaves. -/
def LendPost (w : World) (n : Nat) (l : List Nat) (e : Ending) (w' : World) : Prop :=
  ∃ g, e = .returned (.slice (some ⟨g, 0, none⟩) n (n + 3)) ∧ Lent w' g n l ∧ w.heap.size ≤ g ∧ Below w.heap.size w w' ∧ ∃ cs f, w'.heap[g]? = some (.cells cs 60 f)

set_option maxRecDepth 100000 in
theorem make_lend (n : Nat) (hn : n ≤ 1000) (w : World) :
    (Instr.makeSlice 22 (.int .i64 0) (.int .i64 ((n : Int) + 3))).run Try.prog w = .ok (.slice (some ⟨w.heap.size, 0, none⟩) 0 (n + 3)) (w.alloc (.cells (arr (List.replicate (n + 3) 0)) 60)) := by
  obtain ⟨i, hi, hz, hs, hb⟩ := info_limb'
  have h := run_make (P := Try.prog) w 22 60 i (.int .u32 0) und_limbs hi hz .i64 .i64 0 ((n : Int) + 3) (by omega) (by omega) (by rw [hb]; omega) (by omega)
  rw [hs] at h
  have e : ((n : Int) + 3).toNat = n + 3 := by omega
  rw [e] at h
  simp only [Int.toNat_zero] at h
  rw [h, arr_made]

set_option maxRecDepth 100000 in
/-- The append of LendLimbs: it fits. -/
theorem append_lend (w : World) (g n : Nat) (hg : Own w w.heap.size none 0 0 [] → Rw w g (n + 3) (arr (List.replicate (n + 3) 0))) (A : Option Addr) (c : Nat) (l : List Nat) (h : Lim w A n c l) (hn : n ≤ 1000) (ty : TypeId) :
    ∃ w' cs, (Builtin.append_ #[22, 22] ty #[.slice (some ⟨g, 0, none⟩) 0 (n + 3), .slice A n c]).run Try.prog w = .ok (.slice (some ⟨g, 0, none⟩) n (n + 3)) w' ∧ Rw w' g (n + 3) cs ∧ (∀ j, j < n → cs[j]? = some (.int .u32 (Lm.lg l j : Nat))) ∧ w.grownBy w' (some g) := by
  have hr := hg (Own.nil _ _)
  obtain ⟨i, hi, hz, hs, hb⟩ := info_limb'
  have hown : w.ownsRow g 60 1 (.slice (some ⟨g, 0, none⟩) 0 (n + 3)) 0 [] := ⟨by simp, .inr ⟨g, n + 3, _, rfl, Nat.le_refl _, hr.1, Nat.zero_le _, by unfold maxLen; omega, by rw [hr.2]; omega, by simp⟩⟩
  cases A with
  | none =>
    have h0 : n = 0 := by
      rcases Nat.eq_zero_or_pos n with h0 | h0
      · exact h0
      · obtain ⟨b, o, e, _⟩ := h.2.2.2 h0
        cases e
    subst h0
    refine ⟨w, _, ?_, hr, fun j hj => by omega, World.grownBy.refl _ _⟩
    simp [Builtin.append_, run_underlying und_limbs, sizeOf, typeInfo, hi, Builtin.lenOf, Builtin.firstCells, storeCells]
  | some ad =>
    have hcells : ∀ j u, (limbVs l)[j]? = some u → w.cell? (ad.add j) = some u := by
      intro j u hu
      have hj : j < l.length := by
        rcases Nat.lt_or_ge j l.length with hj | hj
        · exact hj
        · rw [List.getElem?_eq_none (by rw [limbVs_len]; exact hj)] at hu; cases hu
      obtain ⟨b, o, e, _, hc⟩ := h.2.2.2 (by have := h.1; omega)
      injection e with e
      subst e
      rw [limbVs_get hj] at hu
      injection hu with hu
      subst hu
      have hadd : (⟨b, o, none⟩ : Addr).add j = ⟨b, o + j, none⟩ := by unfold Addr.add; split <;> simp_all
      rw [hadd]
      exact hc j (by have := h.1; omega)
    have h1 : ∀ u ∈ limbVs l, u.oneCell' = true := by
      intro u hu
      simp only [limbVs, List.mem_map] at hu
      obtain ⟨x, _, rfl⟩ := hu
      rfl
    obtain ⟨w', hrun, ho, hgr⟩ := run_append_fits (P := Try.prog) w g 22 ty 60 i 1 und_limbs hi hs g 0 (n + 3) [] hown ad n c (limbVs l) (by rw [limbVs_len, h.1]; omega) hcells h1 (by omega)
    rw [Nat.zero_add] at hrun ho
    rcases ho.2 with ⟨hv, _⟩ | ⟨g', cap, cur, hv, _, hh, _, _, hsz, htk⟩
    · cases hv
    · injection hv with hA _ hc
      injection hA with hA
      injection hA with hA
      subst hA hc
      refine ⟨w', cur, hrun, ⟨hh, by omega⟩, fun j hj => ?_, hgr⟩
      have e : (cur.toList.take (n * 1))[j]? = (limbVs l)[j]? := by rw [htk, List.nil_append]
      rw [List.getElem?_take_of_lt (by omega), limbVs_get (by rw [h.1]; exact hj)] at e
      simpa using e

end Go.Proofs.Ytmcfokeibecopaa

namespace Go.Proofs.Ytmcfokeibecopaa
open Go.RowKit

set_option maxRecDepth 100000 in
theorem append_rw (w : World) (g n N : Nat) (cs : Array Value) (hr : Rw w g N cs) (hn : n ≤ N) (hN : N ≤ maxLen) (hn' : n ≤ 1000) (ty : TypeId) :
    ∃ v' w', (Builtin.append_ #[22, 22] ty #[.slice (some ⟨g, 0, none⟩) n N, .slice (some ⟨w.heap.size, 0, none⟩) 1 1]).run Try.prog (w.alloc (.cells #[.int .u32 61166] 60)) = .ok v' w' ∧ w.grownBy w' (some g) := by
  obtain ⟨i, hi, hz, hs, hb⟩ := info_limb'
  have hr' : Rw (w.alloc (.cells #[.int .u32 61166] 60)) g N cs := ⟨(Below.heap_alloc w _ g hr.lt).trans hr.1, hr.2⟩
  have hown : (w.alloc (.cells #[.int .u32 61166] 60)).ownsRow g 60 1 (.slice (some ⟨g, 0, none⟩) n N) n (cs.toList.take n) := ⟨by rw [List.length_take, Array.length_toList, hr.2]; omega, .inr ⟨g, N, cs, rfl, Nat.le_refl _, hr'.1, hn, hN, by rw [hr.2]; omega, by rw [Nat.mul_one]⟩⟩
  obtain ⟨v', w', hrun, _, hg, _⟩ := run_append_own (P := Try.prog) (w.alloc (.cells #[.int .u32 61166] 60)) g 22 ty 60 i (.int .u32 0) 1 4 und_limbs hi hz hs hb rfl (by decide) (.slice (some ⟨g, 0, none⟩) n N) n (cs.toList.take n) hown ⟨w.heap.size, 0, none⟩ 1 1 [.int .u32 61166] rfl (by
    intro j u hu
    rcases j with _ | j
    · simp at hu
      subst hu
      show (w.alloc _).cell? ⟨w.heap.size, 0, none⟩ = _
      rw [World.cell?_alloc_at _ _ _ _ rfl]
      rfl
    · simp at hu) (by intro u hu; simp at hu; subst hu; rfl) (by unfold maxLen; omega) (by omega) (by have := hr'.lt; omega)
  refine ⟨v', w', hrun, ?_⟩
  have ha := World.grownBy_alloc w (.cells #[.int .u32 61166] 60) (some g)
  exact ⟨hg.os.trans ha.os, hg.tape.trans ha.tape, hg.output.trans ha.output, Nat.le_trans ha.size hg.size, fun k hk hne => (hg.block k (Nat.lt_of_lt_of_le hk ha.size) hne).trans (ha.block k hk hne)⟩
set_option maxRecDepth 100000 in
theorem grown_set {w w' : World} {g i : Nat} {u : Value} (h : w.grownBy w' (some g)) : w.grownBy (w'.setCell ⟨g, i, none⟩ u) (some g) :=
  ⟨h.os, h.tape, h.output, by simpa [World.setCell] using h.size, fun k hk hne => (Below.heap_setCell w' ⟨g, i, none⟩ u k (fun e => hne (by rw [e]))).trans (h.block k hk hne)⟩
set_option maxRecDepth 100000 in
theorem grown_tr {a b c : World} {row : Option Nat} (h : a.grownBy b row) (k : b.grownBy c row) : a.grownBy c row :=
  ⟨k.os.trans h.os, k.tape.trans h.tape, k.output.trans h.output, Nat.le_trans h.size k.size, fun i hi hne => (k.block i (Nat.lt_of_lt_of_le hi h.size) hne).trans (h.block i hi hne)⟩

set_option maxRecDepth 100000 in
set_option maxHeartbeats 1000000 in
theorem over_some (w : World) (g n c : Nat) (cs0 : Array Value) (h : Rw w g c cs0) (hnc : n ≤ c) (hc : c ≤ maxLen) (hn : n ≤ 1000) :
    Calls Try.prog 24 #[.slice (some ⟨g, 0, none⟩) n c] w fun e w' => e = .returned (.tuple #[]) ∧ w.grownBy w' (some g) := by
  go_enter Try.func24, Try.ntmps24
  go_wp2
  go_loopw [2] (fun i w' => ∃ (j : Nat) (cs : Array Value), j ≤ n ∧ i = .int .i64 (j : Int) ∧ Rw w' g c cs ∧ w.grownBy w' (some g)) (fun i _ => n - (intOf i).toNat)
  case atStart => exact ⟨0, cs0, by omega, rfl, h, World.grownBy.refl _ _⟩
  case round =>
    obtain ⟨j, cs, hj, rfl, hRw, hgr⟩ := hrel
    by_cases h3 : j < n
    · obtain ⟨u, hu⟩ := hRw.some (i := j) (by omega)
      have hf := hRw.fz j
      go_wp2
      exact ⟨⟨j + 1, _, by omega, by go_num, hRw.set j _, grown_set hgr⟩, by simp [intOf]; omega⟩
    · obtain ⟨v', w1, hrun, hg1⟩ := append_rw wr g n c cs hRw hnc hc hn 22
      have hR := Lib.hid hrun
      clear hrun
      go_wp2_with (at_builtin; refine wpList_append_run rfl _ _ _ rfl _ _ _ rfl rfl hR.out ?_)
      go_end0
      exact ⟨rfl, grown_tr hgr hg1⟩

set_option maxRecDepth 100000 in
set_option maxHeartbeats 1000000 in
theorem over_none (w : World) (c : Nat) (hc : c = 0) :
    Calls Try.prog 24 #[.slice none 0 c] w fun e w' => e = .returned (.tuple #[]) ∧ w.grownBy w' none := by
  subst hc
  obtain ⟨v', w1, hrun, hg1⟩ := append_grown (w.alloc (.cells #[.int .u32 61166] 60)) 0 none 0 0 [] (Own.nil _ _) ⟨w.heap.size, 0, none⟩ 1 1 [61166] (Lim.new w [61166] (by intro x hx; simp at hx; omega)) (by omega) (Nat.zero_le _) 22
  have hR := Lib.hid hrun
  clear hrun
  go_enter Try.func24, Try.ntmps24
  go_wp2
  go_loop [2] (fun i => i = .int .i64 0) (fun _ => 0)
  case atStart => rfl
  case round =>
    subst hrel
    go_wp2_with (at_builtin; refine wpList_append_run rfl _ _ _ rfl _ _ _ rfl rfl hR.out ?_)
    go_end0
    exact ⟨rfl, grown_tr (World.grownBy_alloc w _ none) hg1⟩

end Go.Proofs.Ytmcfokeibecopaa

namespace Go.Proofs.Ytmcfokeibecopaa
open Go.RowKit

def addOk (g g' : Bool) (l k : List Nat) : Bool := mayB g l && mayB g' k && fits (sgn g (Lm.val l) + sgn g' (Lm.val k))
def addZ (g g' : Bool) (l k : List Nat) : Int := if mayB g l && mayB g' k then clip (sgn g (Lm.val l) + sgn g' (Lm.val k)) else 0
set_option maxRecDepth 100000 in
theorem addZ_top (g g' : Bool) (l k : List Nat) : (addZ g g' l k).natAbs < Lm.top := by
  unfold addZ
  split
  · exact clip_top _
  · decide
def subOk (g g' : Bool) (l k : List Nat) : Bool := mayB g l && mayB g' k && fits (sgn g (Lm.val l) - sgn g' (Lm.val k))
def subZ (g g' : Bool) (l k : List Nat) : Int := if mayB g l && mayB g' k then clip (sgn g (Lm.val l) - sgn g' (Lm.val k)) else 0
set_option maxRecDepth 100000 in
theorem subZ_top (g g' : Bool) (l k : List Nat) : (subZ g g' l k).natAbs < Lm.top := by
  unfold subZ
  split
  · exact clip_top _
  · decide
def mulOk (g g' : Bool) (l k : List Nat) : Bool := mayB g l && mayB g' k && fits (sgn g (Lm.val l) * sgn g' (Lm.val k))
def mulZ (g g' : Bool) (l k : List Nat) : Int := if mayB g l && mayB g' k then clip (sgn g (Lm.val l) * sgn g' (Lm.val k)) else 0
set_option maxRecDepth 100000 in
theorem mulZ_top (g g' : Bool) (l k : List Nat) : (mulZ g g' l k).natAbs < Lm.top := by
  unfold mulZ
  split
  · exact clip_top _
  · decide
def cmpR (g g' : Bool) (l k : List Nat) : Int := if mayB g l && mayB g' k then cmpZ (sgn g (Lm.val l)) (sgn g' (Lm.val k)) else 0
def negZ (g : Bool) (l : List Nat) : Int := if mayB g l then -(sgn g (Lm.val l)) else 0
def smOk (g : Bool) (l : List Nat) : Bool := mayB g l && smallB (sgn g (Lm.val l))
def smZ (g : Bool) (l : List Nat) : Int := if mayB g l && smallB (sgn g (Lm.val l)) then sgn g (Lm.val l) else 0
set_option maxRecDepth 100000 in
theorem negZ_top {g : Bool} {l : List Nat} (hs : Lm.Small l) : (negZ g l).natAbs < Lm.top := by
  unfold negZ
  cases ha : mayB g l with
  | false => rw [if_neg (by decide)]; decide
  | true => rw [if_pos rfl, Int.natAbs_neg]; exact top_of_may hs ha
set_option maxRecDepth 100000 in
theorem cmp_raw (w : World) (g g' : Bool) (A B : Option Addr) (n c m d : Nat) (l k : List Nat) (h : Raw w A n c l) (h' : Raw w B m d k) : Calls Try.prog 57 #[.agg #[.bool g, .slice A n c], .agg #[.bool g', .slice B m d]] w (IntPost w (cmpR g g' l k)) := by
  unfold cmpR
  cases ha : mayB g l with
  | false => simpa using cmp_no1 w g g' A B n c m d l k h h' ha
  | true =>
    cases hb : mayB g' k with
    | false => simpa using cmp_no2 w g g' A B n c m d l k h h' ha hb
    | true => simpa using cmp_yes w g g' A B n c m d l k h h' ha hb
set_option maxRecDepth 100000 in
theorem refCmp_raw (w : World) (g g' : Bool) (A B : Option Addr) (n c m d : Nat) (l k : List Nat) (h : Raw w A n c l) (h' : Raw w B m d k) : Calls Try.prog 64 #[.agg #[.bool g, .slice A n c], .agg #[.bool g', .slice B m d]] w (IntPost w (cmpR g g' l k)) := by
  unfold cmpR
  cases ha : mayB g l with
  | false => simpa using refCmp_no1 w g g' A B n c m d l k h h' ha
  | true =>
    cases hb : mayB g' k with
    | false => simpa using refCmp_no2 w g g' A B n c m d l k h h' ha hb
    | true => simpa using refCmp_yes w g g' A B n c m d l k h h' ha hb
set_option maxRecDepth 100000 in
theorem small_raw (w : World) (g : Bool) (A : Option Addr) (n c : Nat) (l : List Nat) (h : Raw w A n c l) : Calls Try.prog 43 #[.agg #[.bool g, .slice A n c]] w (SmallPost w (smZ g l) (smOk g l)) := by
  unfold smZ smOk
  cases ha : mayB g l with
  | false => simpa using small_no1 w g A n c l h ha
  | true => simpa using small_yes w g A n c l h ha
set_option maxRecDepth 100000 in
theorem refSmall_raw (w : World) (g : Bool) (A : Option Addr) (n c : Nat) (l : List Nat) (h : Raw w A n c l) : Calls Try.prog 60 #[.agg #[.bool g, .slice A n c]] w (SmallPost w (smZ g l) (smOk g l)) := by
  unfold smZ smOk
  cases ha : mayB g l with
  | false => simpa using refSmall_no1 w g A n c l h ha
  | true => simpa using refSmall_yes w g A n c l h ha

/-- The block of a number's limbs. -/
def blk (r : NumR) : Option Nat := r.A.map (·.block)
/-- A number whose limbs are a row of its own. -/
def Ow (w : World) (r : NumR) : Prop := (r.A = none ∧ r.n = 0 ∧ r.c = 0) ∨ ∃ g cs, r.A = some ⟨g, 0, none⟩ ∧ Rw w g r.c cs ∧ r.n ≤ r.c ∧ r.c ≤ maxLen
set_option maxRecDepth 100000 in
theorem Ow.lt {w : World} {r : NumR} (h : Ow w r) {g : Nat} (hg : blk r = some g) : g < w.heap.size := by
  rcases h with ⟨h1, _⟩ | ⟨g', cs, h1, h2, _⟩
  · simp [blk, h1] at hg
  · simp [blk, h1] at hg
    subst hg
    exact h2.lt
set_option maxRecDepth 100000 in
theorem Ow.keep {w w' : World} {r : NumR} (h : Ow w r) (hb : ∀ g, blk r = some g → w'.heap[g]? = w.heap[g]?) : Ow w' r := by
  rcases h with h1 | ⟨g', cs, h1, h2, h3⟩
  · exact .inl h1
  · exact .inr ⟨g', cs, h1, ⟨(hb g' (by simp [blk, h1])).trans h2.1, h2.2⟩, h3⟩
set_option maxRecDepth 100000 in
theorem own_ow {w : World} {base n c : Nat} {s : Bool} {A : Option Addr} {l : List Nat} {z : Int} (ho : Own w base A n c l) : Ow w ⟨s, A, n, c, z⟩ ∧ ∀ g, blk ⟨s, A, n, c, z⟩ = some g → base ≤ g := by
  have hc := ho.cap
  rcases ho.2.2.2 with ⟨hv, h0⟩ | ⟨g, cap, cur, hv, hb, hg, h1, h2, h3, _⟩
  · injection hv with hA _ hcc
    subst hA hcc
    exact ⟨.inl ⟨rfl, h0, rfl⟩, fun g hg => by simp [blk] at hg⟩
  · injection hv with hA _ hcc
    subst hA hcc
    exact ⟨.inr ⟨g, cur, rfl, ⟨hg, by rw [h3]; simp⟩, hc⟩, fun g' hg' => by simp [blk] at hg'; omega⟩

/-- What a call leaves that answers a number whose limbs are new; a number and a bool. -/
def RetO (w : World) (z : Int) (e : Ending) (w' : World) : Prop :=
  ∃ r : NumR, e = .returned (.agg #[.bool r.s, .slice r.A r.n r.c]) ∧ r.z = z ∧ Nt w' r ∧ Typ w' r ∧ Ow w' r ∧ (∀ g, blk r = some g → w.heap.size ≤ g) ∧ Below w.heap.size w w'
def RetOB (w : World) (z : Int) (ok : Bool) (e : Ending) (w' : World) : Prop :=
  ∃ r : NumR, e = .returned (.tuple #[.agg #[.bool r.s, .slice r.A r.n r.c], .bool ok]) ∧ r.z = z ∧ Nt w' r ∧ Typ w' r ∧ Ow w' r ∧ (∀ g, blk r = some g → w.heap.size ≤ g) ∧ Below w.heap.size w w'
set_option maxRecDepth 100000 in
theorem OnePost.retO {w w' : World} {z : Int} {e : Ending} (h : OnePost w z e w') (ht : z.natAbs < Lm.top) : RetO w z e w' := by
  obtain ⟨_, rfl, ⟨s, A, n, c, rfl, hs, ho⟩, hb⟩ := h
  exact ⟨⟨s, A, n, c, z⟩, rfl, rfl, ⟨Nm.of_own hs ho, ht⟩, own_typ ho, (own_ow ho).1, (own_ow ho).2, hb⟩
set_option maxRecDepth 100000 in
theorem NumPost.retO {w w' : World} {z : Int} {ok : Bool} {e : Ending} (h : NumPost w z ok e w') (ht : z.natAbs < Lm.top) : RetOB w z ok e w' := by
  obtain ⟨_, rfl, ⟨s, A, n, c, rfl, hs, ho⟩, hb⟩ := h
  exact ⟨⟨s, A, n, c, z⟩, rfl, rfl, ⟨Nm.of_own hs ho, ht⟩, own_typ ho, (own_ow ho).1, (own_ow ho).2, hb⟩

set_option maxRecDepth 100000 in
/-- OverLimbs of such a number: it changes that row alone. -/
theorem over_ow (w : World) (r : NumR) (h : Ow w r) (hn : r.n ≤ 1000) :
    Calls Try.prog 24 #[.slice r.A r.n r.c] w fun e w' => e = .returned (.tuple #[]) ∧ w.grownBy w' (blk r) := by
  rcases h with ⟨h1, h2, h3⟩ | ⟨g, cs, h1, h2, h3, h4⟩
  · unfold blk
    rw [h1, h2]
    exact over_none w r.c h3
  · unfold blk
    rw [h1]
    exact over_some w g r.n r.c cs h2 h3 h4 hn

/-- What NumTells keeps beside its variables: the limbs that it has lent, and the rows that it was handed. -/
structure Tl (w0 : World) (gx n gy m : Nat) (la lb : List Nat) (os : List NumR) (w : World) : Prop where
  lx : Lent w gx n la
  ly : Lent w gy m lb
  ow : ∀ r ∈ os, Ow w r
  far : ∀ r ∈ os, ∀ g, blk r = some g → gx ≠ g ∧ gy ≠ g ∧ w0.heap.size ≤ g
  dis : os.Pairwise fun r r' => ∀ g, blk r = some g → blk r' ≠ some g
section
variable {w0 w w' : World} {gx n gy m : Nat} {la lb : List Nat} {os : List NumR} {r : NumR} {ts : List NumR} {bs : List (Nat × NumR)}
set_option maxRecDepth 100000 in
theorem Tl.below (T : Tl w0 gx n gy m la lb os w) (hb : Below w.heap.size w w') : Tl w0 gx n gy m la lb os w' :=
  ⟨T.lx.below hb, T.ly.below hb, fun r hr => (T.ow r hr).keep fun g hg => hb.block g ((T.ow r hr).lt hg), T.far, T.dis⟩
set_option maxRecDepth 100000 in
theorem Tl.push (T : Tl w0 gx n gy m la lb os w) (hb : Below w.heap.size w w') (ho : Ow w' r) (hf : ∀ g, blk r = some g → w.heap.size ≤ g) (h0 : w0.heap.size ≤ w.heap.size) : Tl w0 gx n gy m la lb (os ++ [r]) w' := by
  have T' := T.below hb
  refine ⟨T'.lx, T'.ly, fun x hx => ?_, fun x hx => ?_, List.pairwise_append.2 ⟨T.dis, List.pairwise_singleton _ _, fun x hx y hy g hg hy' => ?_⟩⟩
  · rcases List.mem_append.1 hx with hx | hx
    · exact T'.ow x hx
    · rw [List.mem_singleton] at hx; subst hx; exact ho
  · rcases List.mem_append.1 hx with hx | hx
    · exact T.far x hx
    · rw [List.mem_singleton] at hx
      subst hx
      intro g hg
      have h1 := hf g hg
      have h2 := T.lx.2.2.1
      have h3 := T.ly.2.2.1
      exact ⟨by omega, by omega, by omega⟩
  · rw [List.mem_singleton] at hy
    subst hy
    have h1 := hf g hy'
    have h2 := (T.ow x hx).lt hg
    omega
set_option maxRecDepth 100000 in
theorem Tl.rawX {rx : NumR} (T : Tl w0 gx n gy m la lb os w) (hx : Hid (rx.A = some ⟨gx, 0, none⟩ ∧ rx.n = n ∧ rx.c = n + 3)) (hn : n ≤ 1000) : Raw w rx.A rx.n rx.c la := by
  rw [hx.out.1, hx.out.2.1, hx.out.2.2]; exact T.lx.raw hn
set_option maxRecDepth 100000 in
theorem Tl.rawY {ry : NumR} (T : Tl w0 gx n gy m la lb os w) (hy : Hid (ry.A = some ⟨gy, 0, none⟩ ∧ ry.n = m ∧ ry.c = m + 3)) (hm : m ≤ 1000) : Raw w ry.A ry.n ry.c lb := by
  rw [hy.out.1, hy.out.2.1, hy.out.2.2]; exact T.ly.raw hm
set_option maxRecDepth 100000 in
theorem Tl.alloc (T : Tl w0 gx n gy m la lb os w) (o : Obj) : Tl w0 gx n gy m la lb os (w.alloc o) := T.below ((Below.refl _ _).alloc (Nat.le_refl _) o)
set_option maxRecDepth 100000 in
theorem Tl.drew (T : Tl w0 gx n gy m la lb os w) : Tl w0 gx n gy m la lb os w.drew := T.below (Below.refl _ _).drew
set_option maxRecDepth 100000 in
/-- One row is written over. -/
theorem Tl.over (T : Tl w0 gx n gy m la lb (r :: os) w) (hg : w.grownBy w' (blk r)) : Tl w0 gx n gy m la lb os w' := by
  have hne : ∀ g, gx = g ∨ gy = g → some g ≠ blk r := fun g hg e => by
    have := T.far r List.mem_cons_self g e.symm
    omega
  refine ⟨T.lx.keep hg.size (hg.block gx T.lx.2.2.1 (hne gx (.inl rfl))), T.ly.keep hg.size (hg.block gy T.ly.2.2.1 (hne gy (.inr rfl))), fun x hx => ?_, fun x hx => T.far x (List.mem_cons_of_mem _ hx), (List.pairwise_cons.1 T.dis).2⟩
  refine (T.ow x (List.mem_cons_of_mem _ hx)).keep fun g hg' => hg.block g ((T.ow x (List.mem_cons_of_mem _ hx)).lt hg') fun e => ?_
  exact (List.pairwise_cons.1 T.dis).1 x hx g e.symm hg'
set_option maxRecDepth 100000 in
theorem Env.over (K : Env w0 ts bs w) (T : Tl w0 gx n gy m la lb (r :: os) w) (hg : w.grownBy w' (blk r)) : Env w0 [] bs w' := by
  refine ⟨K.bl.grown hg K.bl.size (fun k hk => (T.far r List.mem_cons_self k hk).2.2), fun x hx => by simp at hx, fun x hx => by simp at hx, fun x hx => ?_⟩
  have hb := K.bx x hx
  refine (hg.block x.1 hb.lt fun e => ?_).trans hb
  rcases T.ow r List.mem_cons_self with ⟨h1, _⟩ | ⟨g, cs, h1, h2, _⟩
  · simp [blk, h1] at e
  · simp [blk, h1] at e
    unfold Box at hb
    rw [e, h2.1] at hb
    injection hb with hb
    injection hb with _ ht
    exact absurd ht (by decide)
end

end Go.Proofs.Ytmcfokeibecopaa
