/-
  THE CONTRACTS OF PACKAGE num AND OF THE LAWS' OWN FUNCTIONS, SIDE BY SIDE, AT NUMBERS OF ANY LIMBS.
-/
import Derived.Test.YtbpihjcghmmacaaEnv
import Derived.Test.YtbpihjcghmmacaaRefE
import Derived.Test.YtbpihjcghmmacaaRefF
import Derived.Test.YtbpihjcghmmacaaLendB
namespace Go.Proofs.Ytbpihjcghmmacaa
open Go.RowKit

def addOk (g g' : Bool) (l k : List Nat) : Bool := mayB g l && mayB g' k && fits (sgn g (Lm.val l) + sgn g' (Lm.val k))
def addZ (g g' : Bool) (l k : List Nat) : Int := if mayB g l && mayB g' k then clip (sgn g (Lm.val l) + sgn g' (Lm.val k)) else 0
theorem addZ_top (g g' : Bool) (l k : List Nat) : (addZ g g' l k).natAbs < Lm.top := by
  unfold addZ
  split
  · exact clip_top _
  · decide
def subOk (g g' : Bool) (l k : List Nat) : Bool := mayB g l && mayB g' k && fits (sgn g (Lm.val l) - sgn g' (Lm.val k))
def subZ (g g' : Bool) (l k : List Nat) : Int := if mayB g l && mayB g' k then clip (sgn g (Lm.val l) - sgn g' (Lm.val k)) else 0
theorem subZ_top (g g' : Bool) (l k : List Nat) : (subZ g g' l k).natAbs < Lm.top := by
  unfold subZ
  split
  · exact clip_top _
  · decide
def mulOk (g g' : Bool) (l k : List Nat) : Bool := mayB g l && mayB g' k && fits (sgn g (Lm.val l) * sgn g' (Lm.val k))
def mulZ (g g' : Bool) (l k : List Nat) : Int := if mayB g l && mayB g' k then clip (sgn g (Lm.val l) * sgn g' (Lm.val k)) else 0
theorem mulZ_top (g g' : Bool) (l k : List Nat) : (mulZ g g' l k).natAbs < Lm.top := by
  unfold mulZ
  split
  · exact clip_top _
  · decide
def cmpR (g g' : Bool) (l k : List Nat) : Int := if mayB g l && mayB g' k then cmpZ (sgn g (Lm.val l)) (sgn g' (Lm.val k)) else 0
def negZ (g : Bool) (l : List Nat) : Int := if mayB g l then -(sgn g (Lm.val l)) else 0
def smOk (g : Bool) (l : List Nat) : Bool := mayB g l && smallB (sgn g (Lm.val l))
def smZ (g : Bool) (l : List Nat) : Int := if mayB g l && smallB (sgn g (Lm.val l)) then sgn g (Lm.val l) else 0
theorem negZ_top {g : Bool} {l : List Nat} (hs : Lm.Small l) : (negZ g l).natAbs < Lm.top := by
  unfold negZ
  cases ha : mayB g l with
  | false => rw [if_neg (by decide)]; decide
  | true => rw [if_pos rfl, Int.natAbs_neg]; exact top_of_may hs ha
theorem refCmp_raw (w : World) (g g' : Bool) (A B : Option Addr) (n c m d : Nat) (l k : List Nat) (h : Raw w A n c l) (h' : Raw w B m d k) : Calls Try.prog 25 #[.agg #[.bool g, .slice A n c], .agg #[.bool g', .slice B m d]] w (IntPost w (cmpR g g' l k)) := by
  unfold cmpR
  cases ha : mayB g l with
  | false => simpa using refCmp_no1 w g g' A B n c m d l k h h' ha
  | true =>
    cases hb : mayB g' k with
    | false => simpa using refCmp_no2 w g g' A B n c m d l k h h' ha hb
    | true => simpa using refCmp_yes w g g' A B n c m d l k h h' ha hb
theorem small_raw (w : World) (g : Bool) (A : Option Addr) (n c : Nat) (l : List Nat) (h : Raw w A n c l) : Calls Try.prog 42 #[.agg #[.bool g, .slice A n c]] w (SmallPost w (smZ g l) (smOk g l)) := by
  unfold smZ smOk
  cases ha : mayB g l with
  | false => simpa using small_no1 w g A n c l h ha
  | true => simpa using small_yes w g A n c l h ha
theorem refSmall_raw (w : World) (g : Bool) (A : Option Addr) (n c : Nat) (l : List Nat) (h : Raw w A n c l) : Calls Try.prog 45 #[.agg #[.bool g, .slice A n c]] w (SmallPost w (smZ g l) (smOk g l)) := by
  unfold smZ smOk
  cases ha : mayB g l with
  | false => simpa using refSmall_no1 w g A n c l h ha
  | true => simpa using refSmall_yes w g A n c l h ha

/-- The block of a number's limbs. -/
def blk (r : NumR) : Option Nat := r.A.map (·.block)
/-- A number whose limbs are a row of its own. -/
def Ow (w : World) (r : NumR) : Prop := (r.A = none ∧ r.n = 0 ∧ r.c = 0) ∨ ∃ g cs, r.A = some ⟨g, 0, none⟩ ∧ Rw w g r.c cs ∧ r.n ≤ r.c ∧ r.c ≤ maxLen
theorem Ow.lt {w : World} {r : NumR} (h : Ow w r) {g : Nat} (hg : blk r = some g) : g < w.heap.size := by
  rcases h with ⟨h1, _⟩ | ⟨g', cs, h1, h2, _⟩
  · simp [blk, h1] at hg
  · simp [blk, h1] at hg
    subst hg
    exact h2.lt
theorem Ow.keep {w w' : World} {r : NumR} (h : Ow w r) (hb : ∀ g, blk r = some g → w'.heap[g]? = w.heap[g]?) : Ow w' r := by
  rcases h with h1 | ⟨g', cs, h1, h2, h3⟩
  · exact .inl h1
  · exact .inr ⟨g', cs, h1, ⟨(hb g' (by simp [blk, h1])).trans h2.1, h2.2⟩, h3⟩
theorem own_ow {w : World} {base n c : Nat} {s : Bool} {A : Option Addr} {l : List Nat} {z : Int} (ho : Own w base A n c l) : Ow w ⟨s, A, n, c, z⟩ ∧ ∀ g, blk ⟨s, A, n, c, z⟩ = some g → base ≤ g := by
  have hc := ho.cap
  rcases ho.2.2.2 with ⟨hv, h0⟩ | ⟨g, cap, cur, hv, hb, hg, h1, h2, h3, _⟩
  · injection hv with hA _ hcc
    subst hA hcc
    exact ⟨.inl ⟨rfl, h0, rfl⟩, fun g hg => by simp [blk] at hg⟩
  · injection hv with hA _ hcc
    subst hA hcc
    exact ⟨.inr ⟨g, cur, rfl, ⟨hg, by rw [h3]; simp⟩, hc⟩, fun g' hg' => by simp [blk] at hg'; omega⟩

/-- What a call leaves that answers a number whose limbs are new; a number and a bool. -/
def RetO (w : World) (z : Int) (e : Ending) (w' : World) : Prop :=
  ∃ r : NumR, e = .returned (.agg #[.bool r.s, .slice r.A r.n r.c]) ∧ r.z = z ∧ Nt w' r ∧ Typ w' r ∧ Ow w' r ∧ (∀ g, blk r = some g → w.heap.size ≤ g) ∧ Below w.heap.size w w'
def RetOB (w : World) (z : Int) (ok : Bool) (e : Ending) (w' : World) : Prop :=
  ∃ r : NumR, e = .returned (.tuple #[.agg #[.bool r.s, .slice r.A r.n r.c], .bool ok]) ∧ r.z = z ∧ Nt w' r ∧ Typ w' r ∧ Ow w' r ∧ (∀ g, blk r = some g → w.heap.size ≤ g) ∧ Below w.heap.size w w'
theorem OnePost.retO {w w' : World} {z : Int} {e : Ending} (h : OnePost w z e w') (ht : z.natAbs < Lm.top) : RetO w z e w' := by
  obtain ⟨_, rfl, ⟨s, A, n, c, rfl, hs, ho⟩, hb⟩ := h
  exact ⟨⟨s, A, n, c, z⟩, rfl, rfl, ⟨Nm.of_own hs ho, ht⟩, own_typ ho, (own_ow ho).1, (own_ow ho).2, hb⟩
theorem NumPost.retO {w w' : World} {z : Int} {ok : Bool} {e : Ending} (h : NumPost w z ok e w') (ht : z.natAbs < Lm.top) : RetOB w z ok e w' := by
  obtain ⟨_, rfl, ⟨s, A, n, c, rfl, hs, ho⟩, hb⟩ := h
  exact ⟨⟨s, A, n, c, z⟩, rfl, rfl, ⟨Nm.of_own hs ho, ht⟩, own_typ ho, (own_ow ho).1, (own_ow ho).2, hb⟩

/-- OverLimbs of such a number: it changes that row alone. -/
theorem over_ow (w : World) (r : NumR) (h : Ow w r) (hn : r.n ≤ 1000) :
    Calls Try.prog 12 #[.slice r.A r.n r.c] w fun e w' => e = .returned (.tuple #[]) ∧ w.grownBy w' (blk r) := by
  rcases h with ⟨h1, h2, h3⟩ | ⟨g, cs, h1, h2, h3, h4⟩
  · unfold blk
    rw [h1, h2]
    exact over_none w r.c h3
  · unfold blk
    rw [h1]
    exact over_some w g r.n r.c cs h2 h3 h4 hn

/-- What NumTells keeps beside its variables: the limbs that it has lent, and the rows that it was handed. -/
structure Tl (w0 : World) (gx n gy m : Nat) (la lb : List Nat) (os : List NumR) (w : World) : Prop where
  lx : Lent w gx n la
  ly : Lent w gy m lb
  ow : ∀ r ∈ os, Ow w r
  far : ∀ r ∈ os, ∀ g, blk r = some g → gx ≠ g ∧ gy ≠ g ∧ w0.heap.size ≤ g
  dis : os.Pairwise fun r r' => ∀ g, blk r = some g → blk r' ≠ some g
section
variable {w0 w w' : World} {gx n gy m : Nat} {la lb : List Nat} {os : List NumR} {r : NumR} {ts : List NumR} {bs : List (Nat × NumR)}
theorem Tl.below (T : Tl w0 gx n gy m la lb os w) (hb : Below w.heap.size w w') : Tl w0 gx n gy m la lb os w' :=
  ⟨T.lx.below hb, T.ly.below hb, fun r hr => (T.ow r hr).keep fun g hg => hb.block g ((T.ow r hr).lt hg), T.far, T.dis⟩
theorem Tl.push (T : Tl w0 gx n gy m la lb os w) (hb : Below w.heap.size w w') (ho : Ow w' r) (hf : ∀ g, blk r = some g → w.heap.size ≤ g) (h0 : w0.heap.size ≤ w.heap.size) : Tl w0 gx n gy m la lb (os ++ [r]) w' := by
  have T' := T.below hb
  refine ⟨T'.lx, T'.ly, fun x hx => ?_, fun x hx => ?_, List.pairwise_append.2 ⟨T.dis, List.pairwise_singleton _ _, fun x hx y hy g hg hy' => ?_⟩⟩
  · rcases List.mem_append.1 hx with hx | hx
    · exact T'.ow x hx
    · rw [List.mem_singleton] at hx; subst hx; exact ho
  · rcases List.mem_append.1 hx with hx | hx
    · exact T.far x hx
    · rw [List.mem_singleton] at hx
      subst hx
      intro g hg
      have h1 := hf g hg
      have h2 := T.lx.2.2.1
      have h3 := T.ly.2.2.1
      exact ⟨by omega, by omega, by omega⟩
  · rw [List.mem_singleton] at hy
    subst hy
    have h1 := hf g hy'
    have h2 := (T.ow x hx).lt hg
    omega
theorem Tl.rawX {rx : NumR} (T : Tl w0 gx n gy m la lb os w) (hx : Hid (rx.A = some ⟨gx, 0, none⟩ ∧ rx.n = n ∧ rx.c = n + 3)) (hn : n ≤ 1000) : Raw w rx.A rx.n rx.c la := by
  rw [hx.out.1, hx.out.2.1, hx.out.2.2]; exact T.lx.raw hn
theorem Tl.rawY {ry : NumR} (T : Tl w0 gx n gy m la lb os w) (hy : Hid (ry.A = some ⟨gy, 0, none⟩ ∧ ry.n = m ∧ ry.c = m + 3)) (hm : m ≤ 1000) : Raw w ry.A ry.n ry.c lb := by
  rw [hy.out.1, hy.out.2.1, hy.out.2.2]; exact T.ly.raw hm
theorem Tl.alloc (T : Tl w0 gx n gy m la lb os w) (o : Obj) : Tl w0 gx n gy m la lb os (w.alloc o) := T.below ((Below.refl _ _).alloc (Nat.le_refl _) o)
theorem Tl.drew (T : Tl w0 gx n gy m la lb os w) : Tl w0 gx n gy m la lb os w.drew := T.below (Below.refl _ _).drew
/-- One row is written over. -/
theorem Tl.over (T : Tl w0 gx n gy m la lb (r :: os) w) (hg : w.grownBy w' (blk r)) : Tl w0 gx n gy m la lb os w' := by
  have hne : ∀ g, gx = g ∨ gy = g → some g ≠ blk r := fun g hg e => by
    have := T.far r List.mem_cons_self g e.symm
    omega
  refine ⟨T.lx.keep hg.size (hg.block gx T.lx.2.2.1 (hne gx (.inl rfl))), T.ly.keep hg.size (hg.block gy T.ly.2.2.1 (hne gy (.inr rfl))), fun x hx => ?_, fun x hx => T.far x (List.mem_cons_of_mem _ hx), (List.pairwise_cons.1 T.dis).2⟩
  refine (T.ow x (List.mem_cons_of_mem _ hx)).keep fun g hg' => hg.block g ((T.ow x (List.mem_cons_of_mem _ hx)).lt hg') fun e => ?_
  exact (List.pairwise_cons.1 T.dis).1 x hx g e.symm hg'
theorem Env.over (K : Env w0 ts bs w) (T : Tl w0 gx n gy m la lb (r :: os) w) (hg : w.grownBy w' (blk r)) : Env w0 [] bs w' := by
  refine ⟨K.bl.grown hg K.bl.size (fun k hk => (T.far r List.mem_cons_self k hk).2.2), fun x hx => by simp at hx, fun x hx => by simp at hx, fun x hx => ?_⟩
  have hb := K.bx x hx
  refine (hg.block x.1 hb.lt fun e => ?_).trans hb
  rcases T.ow r List.mem_cons_self with ⟨h1, _⟩ | ⟨g, cs, h1, h2, _⟩
  · simp [blk, h1] at e
  · simp [blk, h1] at e
    unfold Box at hb
    rw [e, h2.1] at hb
    injection hb with hb
    injection hb with _ ht
    exact absurd ht (by decide)
end

end Go.Proofs.Ytbpihjcghmmacaa
