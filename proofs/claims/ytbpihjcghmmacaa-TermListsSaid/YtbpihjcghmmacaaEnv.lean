/-
  NUMBERS AS RECORDS; WHAT A LAW HOLDS WHILE IT RUNS: variables that hold numbers, and numbers beside them.
-/
import Derived.Test.YtbpihjcghmmacaaAwake
import Derived.Deep.DeepCutAuto
namespace Go.Proofs.Ytbpihjcghmmacaa
open Go.RowKit

/-- A number in memory: its sign, its slice, and what it comes to. -/
structure NumR where
  s : Bool
  A : Option Addr
  n : Nat
  c : Nat
  z : Int

/-- The record tells the truth, and the number has at most eight limbs. -/
def Nt (w : World) (r : NumR) : Prop := Nm w r.s r.A r.n r.c r.z ∧ r.z.natAbs < Lm.top
theorem Nt.below {w w' : World} {r : NumR} (h : Nt w r) (hb : Below w.heap.size w w') : Nt w' r := ⟨h.1.below hb, h.2⟩

/-- Its limbs lie in a row of limbs. -/
def Typ (w : World) (r : NumR) : Prop := ∀ b o, r.A = some ⟨b, o, none⟩ → 0 < r.n → ∃ cs f, w.heap[b]? = some (.cells cs 50 f)
/-- Its limbs came in, or lie in a row of limbs. -/
def Sep (w0 w : World) (r : NumR) : Prop := ∀ b o, r.A = some ⟨b, o, none⟩ → 0 < r.n → b < w0.heap.size ∨ ∃ cs f, w.heap[b]? = some (.cells cs 50 f)
theorem Sep.below {w0 w w' : World} {r : NumR} (h : Sep w0 w r) (hb : Below w.heap.size w w') : Sep w0 w' r := fun b o e hn => by
  rcases h b o e hn with h1 | ⟨cs, f, h1⟩
  · exact .inl h1
  · exact .inr ⟨cs, f, (hb.block b (Array.getElem?_eq_some_iff.1 h1).1).trans h1⟩
theorem Typ.sep {w0 w : World} {r : NumR} (h : Typ w r) : Sep w0 w r := fun b o e hn => .inr (h b o e hn)
theorem Nt.sep {w : World} {r : NumR} (h : Nt w r) : Sep w w r := fun b o e hn => by
  obtain ⟨b', o', e', hlt, _⟩ := h.1.1.1.2.2.2 hn
  rw [e] at e'
  injection e' with e'
  injection e' with e1
  exact .inl (by omega)
theorem sep_ne {w0 w : World} {r : NumR} {g b o : Nat} {x y : Value} (h : Sep w0 w r) (hx : Box w g x y) (hg : w0.heap.size ≤ g) (e : r.A = some ⟨b, o, none⟩) (hn : 0 < r.n) : b ≠ g := by
  rintro rfl
  rcases h b o e hn with h1 | ⟨cs, f, h1⟩
  · omega
  · unfold Box at hx
    rw [h1] at hx
    injection hx with hx
    injection hx with _ ht
    exact absurd ht (by decide)
theorem Nt.box {w0 w : World} {r : NumR} {g : Nat} {x y : Value} (h : Nt w r) (hs : Sep w0 w r) (hx : Box w g x y) (hg : w0.heap.size ≤ g) (i : Nat) (u : Value) : Nt (w.setCell ⟨g, i, none⟩ u) r := by
  refine ⟨⟨⟨⟨h.1.1.1.1, h.1.1.1.2.1, h.1.1.1.2.2.1, fun hn => ?_⟩, h.1.1.2⟩, h.1.2⟩, h.2⟩
  obtain ⟨b, o, e, hlt, hc⟩ := h.1.1.1.2.2.2 hn
  have hne := sep_ne hs hx hg e hn
  refine ⟨b, o, e, by simpa [World.setCell] using hlt, fun j hj => ?_⟩
  rw [World.cell?_of_block (w := w) (Below.heap_setCell w ⟨g, i, none⟩ u b hne)]
  exact hc j hj
theorem Sep.box {w0 w : World} {r : NumR} {g : Nat} {x y : Value} (hs : Sep w0 w r) (hx : Box w g x y) (hg : w0.heap.size ≤ g) (i : Nat) (u : Value) : Sep w0 (w.setCell ⟨g, i, none⟩ u) r := fun b o e hn => by
  have hne := sep_ne hs hx hg e hn
  rcases hs b o e hn with h1 | ⟨cs, f, h1⟩
  · exact .inl h1
  · exact .inr ⟨cs, f, (Below.heap_setCell w ⟨g, i, none⟩ u b hne).trans h1⟩

/-- What is kept: nothing that was there has changed; the numbers ts stand; the variables bs hold theirs. -/
structure Env (w0 : World) (ts : List NumR) (bs : List (Nat × NumR)) (w : World) : Prop where
  bl : Below w0.heap.size w0 w
  nt : ∀ r ∈ ts, Nt w r
  sp : ∀ r ∈ ts, Sep w0 w r
  bx : ∀ x ∈ bs, Box w x.1 (.bool x.2.s) (.slice x.2.A x.2.n x.2.c)
section
variable {w0 w w' : World} {ts : List NumR} {bs : List (Nat × NumR)} {r : NumR} {g : Nat}
theorem Env.below (K : Env w0 ts bs w) (hb : Below w.heap.size w w') : Env w0 ts bs w' :=
  ⟨K.bl.trans (hb.mono K.bl.size), fun r hr => (K.nt r hr).below hb, fun r hr => (K.sp r hr).below hb, fun x hx => (K.bx x hx).below' hb⟩
theorem Env.drew (K : Env w0 ts bs w) : Env w0 ts bs w.drew := K.below (Below.refl _ _).drew
theorem Env.alloc (K : Env w0 ts bs w) (o : Obj) : Env w0 ts bs (w.alloc o) := K.below ((Below.refl _ _).alloc (Nat.le_refl _) o)
theorem Env.push (K : Env w0 ts bs w) (h : Nt w r) (ht : Typ w r) : Env w0 (r :: ts) bs w := ⟨K.bl, fun x hx => by
  rcases List.mem_cons.1 hx with rfl | hx
  · exact h
  · exact K.nt x hx, fun x hx => by
  rcases List.mem_cons.1 hx with rfl | hx
  · exact ht.sep
  · exact K.sp x hx, K.bx⟩
theorem Env.new (K : Env w0 ts bs w) (r : NumR) : Env w0 ts ((w.heap.size, r) :: bs) (w.alloc (.cells #[.bool r.s, .slice r.A r.n r.c] 24)) := by
  have K' := K.alloc (.cells #[.bool r.s, .slice r.A r.n r.c] 24)
  refine ⟨K'.bl, K'.nt, K'.sp, fun x hx => ?_⟩
  rcases List.mem_cons.1 hx with rfl | hx
  · exact Box.new w _ _
  · exact K'.bx x hx
theorem Env.drop2 {r' : NumR} (K : Env w0 (r :: r' :: ts) bs w) : Env w0 (r :: ts) bs w :=
  ⟨K.bl, fun x hx => K.nt x (by rcases List.mem_cons.1 hx with rfl | h; exact List.mem_cons_self; exact List.mem_cons_of_mem _ (List.mem_cons_of_mem _ h)), fun x hx => K.sp x (by rcases List.mem_cons.1 hx with rfl | h; exact List.mem_cons_self; exact List.mem_cons_of_mem _ (List.mem_cons_of_mem _ h)), K.bx⟩
theorem Env.lt (K : Env w0 ts bs w) (h : (g, r) ∈ bs) : g < w.heap.size := (K.bx _ h).lt
theorem Env.c0 (K : Env w0 ts bs w) (h : (g, r) ∈ bs) : w.cell? ⟨g, 0, none⟩ = some (.bool r.s) := (K.bx _ h).c0
theorem Env.c1 (K : Env w0 ts bs w) (h : (g, r) ∈ bs) : w.cell? ⟨g, 1, none⟩ = some (.slice r.A r.n r.c) := (K.bx _ h).c1
theorem Env.store0 {x y : Value} (K : Env w0 ts bs w) (hx : Box w g x y) (hg : w0.heap.size ≤ g) (hne : ∀ x ∈ bs, x.1 ≠ g) (i : Nat) (u : Value) : Env w0 ts bs (w.setCell ⟨g, i, none⟩ u) :=
  ⟨K.bl.setCell (p := ⟨g, i, none⟩) hg u, fun r hr => (K.nt r hr).box (K.sp r hr) hx hg i u, fun r hr => (K.sp r hr).box hx hg i u, fun z hz => (K.bx z hz).far (p := ⟨g, i, none⟩) (hne z hz) u⟩
/-- A number is stored into a variable that has just been made. -/
theorem Env.store {x y : Value} (K : Env w0 ts bs w) (hx : Box w g x y) (hg : w0.heap.size ≤ g) (hne : ∀ x ∈ bs, x.1 ≠ g) (r : NumR) :
    Env w0 ts ((g, r) :: bs) ((w.setCell ⟨g, 0, none⟩ (.bool r.s)).setCell ⟨g, 1, none⟩ (.slice r.A r.n r.c)) := by
  have K' := (K.store0 hx hg hne 0 (.bool r.s)).store0 (hx.set0 _) hg hne 1 (.slice r.A r.n r.c)
  refine ⟨K'.bl, K'.nt, K'.sp, fun z hz => ?_⟩
  rcases List.mem_cons.1 hz with rfl | hz
  · exact (hx.set0 _).set1 _
  · exact K'.bx z hz
end

theorem clip_top (z : Int) : (clip z).natAbs < Lm.top := by
  unfold clip
  by_cases h : z.natAbs < Lm.top
  · rw [if_pos h]; exact h
  · rw [if_neg h]; decide

/-- What a call leaves that answers a number; a number and a bool. -/
def RetNum (w : World) (z : Int) (e : Ending) (w' : World) : Prop :=
  ∃ r : NumR, e = .returned (.agg #[.bool r.s, .slice r.A r.n r.c]) ∧ r.z = z ∧ Nt w' r ∧ Typ w' r ∧ Below w.heap.size w w'
def RetNumB (w : World) (z : Int) (ok : Bool) (e : Ending) (w' : World) : Prop :=
  ∃ r : NumR, e = .returned (.tuple #[.agg #[.bool r.s, .slice r.A r.n r.c], .bool ok]) ∧ r.z = z ∧ Nt w' r ∧ Typ w' r ∧ Below w.heap.size w w'
theorem own_typ {w : World} {base n c : Nat} {s : Bool} {A : Option Addr} {l : List Nat} {z : Int} (ho : Own w base A n c l) : Typ w ⟨s, A, n, c, z⟩ := fun b o e hn => by
  simp only at e hn
  rcases ho.2.2.2 with ⟨_, h0⟩ | ⟨g, cap, cur, hv, _, hg, _⟩
  · omega
  · injection hv with hA
    rw [e] at hA
    injection hA with hA
    injection hA with hA
    subst hA
    exact ⟨cur, _, hg⟩
theorem OnePost.ret {w w' : World} {z : Int} {e : Ending} (h : OnePost w z e w') (ht : z.natAbs < Lm.top) : RetNum w z e w' := by
  obtain ⟨_, rfl, ⟨s, A, n, c, rfl, hs, ho⟩, hb⟩ := h
  exact ⟨⟨s, A, n, c, z⟩, rfl, rfl, ⟨Nm.of_own hs ho, ht⟩, own_typ ho, hb⟩
theorem NumPost.ret {w w' : World} {z : Int} {ok : Bool} {e : Ending} (h : NumPost w z ok e w') (ht : z.natAbs < Lm.top) : RetNumB w z ok e w' := by
  obtain ⟨_, rfl, ⟨s, A, n, c, rfl, hs, ho⟩, hb⟩ := h
  exact ⟨⟨s, A, n, c, z⟩, rfl, rfl, ⟨Nm.of_own hs ho, ht⟩, own_typ ho, hb⟩

section
variable (w : World) (r r' : NumR) (h : Nt w r) (h' : Nt w r')
include h h'
theorem same_r : Calls Try.prog 11 #[.agg #[.bool r.s, .slice r.A r.n r.c], .agg #[.bool r'.s, .slice r'.A r'.n r'.c]] w fun e w' => e = .returned (.bool (decide (r.z = r'.z))) ∧ Below w.heap.size w w' :=
  same_z w _ _ _ _ _ _ _ _ _ _ h.1 h'.1
end
section
variable (w : World) (r : NumR) (h : Nt w r)
include h
theorem may_r : Calls Try.prog 43 #[.agg #[.bool r.s, .slice r.A r.n r.c]] w fun e w' => e = .returned (.bool true) ∧ Below w.heap.size w w' :=
  may_z w _ _ _ _ _ h.1 h.2
end
theorem of_r (w : World) (z : Int) (h1 : -9223372036854775808 ≤ z) (h2 : z ≤ 9223372036854775807) : Calls Try.prog 33 #[.int .i64 z] w (RetNum w z) :=
  (of_any w z h1 h2).mono fun _ _ hp => hp.ret (by have := Lm.top_ge; omega)

theorem great_any (w : World) (g : Bool) (A : Option Addr) (n c : Nat) :
    Calls Try.prog 17 #[.agg #[.bool g, .slice A n c]] w fun e w' => e = .returned (.bool (decide (40 < n))) ∧ Below w.heap.size w w' := by
  by_cases h : 40 < n
  · have hd : decide ((40 : Int) < (n : Int)) = true := by rw [decide_eq_true_iff]; omega
    go_enter Try.func17, Try.ntmps17
    go_wp2
    go_ret
    exact ⟨by rw [decide_eq_true h]; rfl, (Below.refl _ _).alloc (Nat.le_refl _) _⟩
  · have hd : decide ((40 : Int) < (n : Int)) = false := by rw [decide_eq_false_iff_not]; omega
    go_enter Try.func17, Try.ntmps17
    go_wp2
    go_ret
    exact ⟨by rw [decide_eq_false h]; rfl, (Below.refl _ _).alloc (Nat.le_refl _) _⟩
theorem Nt.len {w : World} {r : NumR} (h : Nt w r) : r.n ≤ 8 := by
  have h1 := (Lm.top_iff _).2 h.2
  rw [h.1.1.1.1] at h1
  exact h1
theorem great_r (w : World) (r : NumR) (h : Nt w r) :
    Calls Try.prog 17 #[.agg #[.bool r.s, .slice r.A r.n r.c]] w fun e w' => e = .returned (.bool false) ∧ Below w.heap.size w w' := by
  have h1 := great_any w r.s r.A r.n r.c
  have h2 := h.len
  rwa [decide_eq_false (by omega)] at h1

end Go.Proofs.Ytbpihjcghmmacaa
