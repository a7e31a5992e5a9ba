/-
  THE CONTRACTS OF PACKAGE num AND OF THE LAWS' OWN FUNCTIONS, SIDE BY SIDE, AT NUMBERS OF ANY LIMBS.
  FLOATS OF 64 BITS AS RUNGS: what a word stands for, how a number is rounded to a word (no Go here).
  FLOATS OF 64 BITS: order, sums, products, quotients, signs (no Go here).
-/
import Derived.Test.YtejmmjedognaaaaGreatMv13
import Derived.Test.YtejmmjedognaaaaGreatMv15
import Derived.Test.YtejmmjedognaaaaGreatMv16
import Derived.Laws.FloatArith
namespace Go.Proofs.YtejmmjedognaaaaGreat
open Go.RowKit

def addOk (g g' : Bool) (l k : List Nat) : Bool := mayB g l && mayB g' k && fits (sgn g (Lm.val l) + sgn g' (Lm.val k))
def addZ (g g' : Bool) (l k : List Nat) : Int := if mayB g l && mayB g' k then clip (sgn g (Lm.val l) + sgn g' (Lm.val k)) else 0
set_option maxRecDepth 100000 in
theorem addZ_top (g g' : Bool) (l k : List Nat) : (addZ g g' l k).natAbs < Lm.top := by
  unfold addZ
  split
  · exact clip_top _
  · decide
def subOk (g g' : Bool) (l k : List Nat) : Bool := mayB g l && mayB g' k && fits (sgn g (Lm.val l) - sgn g' (Lm.val k))
def subZ (g g' : Bool) (l k : List Nat) : Int := if mayB g l && mayB g' k then clip (sgn g (Lm.val l) - sgn g' (Lm.val k)) else 0
set_option maxRecDepth 100000 in
theorem subZ_top (g g' : Bool) (l k : List Nat) : (subZ g g' l k).natAbs < Lm.top := by
  unfold subZ
  split
  · exact clip_top _
  · decide
def mulOk (g g' : Bool) (l k : List Nat) : Bool := mayB g l && mayB g' k && fits (sgn g (Lm.val l) * sgn g' (Lm.val k))
def mulZ (g g' : Bool) (l k : List Nat) : Int := if mayB g l && mayB g' k then clip (sgn g (Lm.val l) * sgn g' (Lm.val k)) else 0
set_option maxRecDepth 100000 in
theorem mulZ_top (g g' : Bool) (l k : List Nat) : (mulZ g g' l k).natAbs < Lm.top := by
  unfold mulZ
  split
  · exact clip_top _
  · decide
def cmpR (g g' : Bool) (l k : List Nat) : Int := if mayB g l && mayB g' k then cmpZ (sgn g (Lm.val l)) (sgn g' (Lm.val k)) else 0
def negZ (g : Bool) (l : List Nat) : Int := if mayB g l then -(sgn g (Lm.val l)) else 0
def smOk (g : Bool) (l : List Nat) : Bool := mayB g l && smallB (sgn g (Lm.val l))
def smZ (g : Bool) (l : List Nat) : Int := if mayB g l && smallB (sgn g (Lm.val l)) then sgn g (Lm.val l) else 0
set_option maxRecDepth 100000 in
theorem negZ_top {g : Bool} {l : List Nat} (hs : Lm.Small l) : (negZ g l).natAbs < Lm.top := by
  unfold negZ
  cases ha : mayB g l with
  | false => rw [if_neg (by decide)]; decide
  | true => rw [if_pos rfl, Int.natAbs_neg]; exact top_of_may hs ha
set_option maxRecDepth 100000 in
theorem small_raw (w : World) (g : Bool) (A : Option Addr) (n c : Nat) (l : List Nat) (h : Raw w A n c l) : Calls Tryz.prog 159 #[.agg #[.bool g, .slice A n c]] w (SmallPost w (smZ g l) (smOk g l)) := by
  unfold smZ smOk
  cases ha : mayB g l with
  | false => simpa using small_no1 w g A n c l h ha
  | true => simpa using small_yes w g A n c l h ha
set_option maxRecDepth 100000 in
theorem refSmall_raw (w : World) (g : Bool) (A : Option Addr) (n c : Nat) (l : List Nat) (h : Raw w A n c l) : Calls Tryz.prog 124 #[.agg #[.bool g, .slice A n c]] w (SmallPost w (smZ g l) (smOk g l)) := by
  unfold smZ smOk
  cases ha : mayB g l with
  | false => simpa using refSmall_no1 w g A n c l h ha
  | true => simpa using refSmall_yes w g A n c l h ha

/-- The block of a number's limbs. -/
def blk (r : NumR) : Option Nat := r.A.map (·.block)
/-- A number whose limbs are a row of its own. -/
def Ow (w : World) (r : NumR) : Prop := (r.A = none ∧ r.n = 0 ∧ r.c = 0) ∨ ∃ g cs, r.A = some ⟨g, 0, none⟩ ∧ Rw w g r.c cs ∧ r.n ≤ r.c ∧ r.c ≤ maxLen
set_option maxRecDepth 100000 in
theorem Ow.lt {w : World} {r : NumR} (h : Ow w r) {g : Nat} (hg : blk r = some g) : g < w.heap.size := by
  rcases h with ⟨h1, _⟩ | ⟨g', cs, h1, h2, _⟩
  · simp [blk, h1] at hg
  · simp [blk, h1] at hg
    subst hg
    exact h2.lt
set_option maxRecDepth 100000 in
theorem Ow.keep {w w' : World} {r : NumR} (h : Ow w r) (hb : ∀ g, blk r = some g → w'.heap[g]? = w.heap[g]?) : Ow w' r := by
  rcases h with h1 | ⟨g', cs, h1, h2, h3⟩
  · exact .inl h1
  · exact .inr ⟨g', cs, h1, ⟨(hb g' (by simp [blk, h1])).trans h2.1, h2.2⟩, h3⟩
set_option maxRecDepth 100000 in
theorem own_ow {w : World} {base n c : Nat} {s : Bool} {A : Option Addr} {l : List Nat} {z : Int} (ho : Own w base A n c l) : Ow w ⟨s, A, n, c, z⟩ ∧ ∀ g, blk ⟨s, A, n, c, z⟩ = some g → base ≤ g := by
  have hc := ho.cap
  rcases ho.2.2.2 with ⟨hv, h0⟩ | ⟨g, cap, cur, hv, hb, hg, h1, h2, h3, _⟩
  · injection hv with hA _ hcc
    subst hA hcc
    exact ⟨.inl ⟨rfl, h0, rfl⟩, fun g hg => by simp [blk] at hg⟩
  · injection hv with hA _ hcc
    subst hA hcc
    exact ⟨.inr ⟨g, cur, rfl, ⟨hg, by rw [h3]; simp⟩, hc⟩, fun g' hg' => by simp [blk] at hg'; omega⟩

/-- What a call leaves that answers a number whose limbs are new; a number and a bool. -/
def RetO (w : World) (z : Int) (e : Ending) (w' : World) : Prop :=
  ∃ r : NumR, e = .returned (.agg #[.bool r.s, .slice r.A r.n r.c]) ∧ r.z = z ∧ Nt w' r ∧ Typ w' r ∧ Ow w' r ∧ (∀ g, blk r = some g → w.heap.size ≤ g) ∧ Below w.heap.size w w'
def RetOB (w : World) (z : Int) (ok : Bool) (e : Ending) (w' : World) : Prop :=
  ∃ r : NumR, e = .returned (.tuple #[.agg #[.bool r.s, .slice r.A r.n r.c], .bool ok]) ∧ r.z = z ∧ Nt w' r ∧ Typ w' r ∧ Ow w' r ∧ (∀ g, blk r = some g → w.heap.size ≤ g) ∧ Below w.heap.size w w'
set_option maxRecDepth 100000 in
theorem OnePost.retO {w w' : World} {z : Int} {e : Ending} (h : OnePost w z e w') (ht : z.natAbs < Lm.top) : RetO w z e w' := by
  obtain ⟨_, rfl, ⟨s, A, n, c, rfl, hs, ho⟩, hb⟩ := h
  exact ⟨⟨s, A, n, c, z⟩, rfl, rfl, ⟨Nm.of_own hs ho, ht⟩, own_typ ho, (own_ow ho).1, (own_ow ho).2, hb⟩
set_option maxRecDepth 100000 in
theorem NumPost.retO {w w' : World} {z : Int} {ok : Bool} {e : Ending} (h : NumPost w z ok e w') (ht : z.natAbs < Lm.top) : RetOB w z ok e w' := by
  obtain ⟨_, rfl, ⟨s, A, n, c, rfl, hs, ho⟩, hb⟩ := h
  exact ⟨⟨s, A, n, c, z⟩, rfl, rfl, ⟨Nm.of_own hs ho, ht⟩, own_typ ho, (own_ow ho).1, (own_ow ho).2, hb⟩

set_option maxRecDepth 100000 in
/-- OverLimbs of such a number: it changes that row alone. -/
theorem over_ow (w : World) (r : NumR) (h : Ow w r) (hn : r.n ≤ 1000) :
    Calls Tryz.prog 42 #[.slice r.A r.n r.c] w fun e w' => e = .returned (.tuple #[]) ∧ w.grownBy w' (blk r) := by
  rcases h with ⟨h1, h2, h3⟩ | ⟨g, cs, h1, h2, h3, h4⟩
  · unfold blk
    rw [h1, h2]
    exact over_none w r.c h3
  · unfold blk
    rw [h1]
    exact over_some w g r.n r.c cs h2 h3 h4 hn

/-- What NumTells keeps beside its variables: the limbs that it has lent, and the rows that it was handed. -/
structure Tl (w0 : World) (gx n gy m : Nat) (la lb : List Nat) (os : List NumR) (w : World) : Prop where
  lx : Lent w gx n la
  ly : Lent w gy m lb
  ow : ∀ r ∈ os, Ow w r
  far : ∀ r ∈ os, ∀ g, blk r = some g → gx ≠ g ∧ gy ≠ g ∧ w0.heap.size ≤ g
  dis : os.Pairwise fun r r' => ∀ g, blk r = some g → blk r' ≠ some g
section
variable {w0 w w' : World} {gx n gy m : Nat} {la lb : List Nat} {os : List NumR} {r : NumR} {ts : List NumR} {bs : List (Nat × NumR)}
set_option maxRecDepth 100000 in
theorem Tl.below (T : Tl w0 gx n gy m la lb os w) (hb : Below w.heap.size w w') : Tl w0 gx n gy m la lb os w' :=
  ⟨T.lx.below hb, T.ly.below hb, fun r hr => (T.ow r hr).keep fun g hg => hb.block g ((T.ow r hr).lt hg), T.far, T.dis⟩
set_option maxRecDepth 100000 in
theorem Tl.push (T : Tl w0 gx n gy m la lb os w) (hb : Below w.heap.size w w') (ho : Ow w' r) (hf : ∀ g, blk r = some g → w.heap.size ≤ g) (h0 : w0.heap.size ≤ w.heap.size) : Tl w0 gx n gy m la lb (os ++ [r]) w' := by
  have T' := T.below hb
  refine ⟨T'.lx, T'.ly, fun x hx => ?_, fun x hx => ?_, List.pairwise_append.2 ⟨T.dis, List.pairwise_singleton _ _, fun x hx y hy g hg hy' => ?_⟩⟩
  · rcases List.mem_append.1 hx with hx | hx
    · exact T'.ow x hx
    · rw [List.mem_singleton] at hx; subst hx; exact ho
  · rcases List.mem_append.1 hx with hx | hx
    · exact T.far x hx
    · rw [List.mem_singleton] at hx
      subst hx
      intro g hg
      have h1 := hf g hg
      have h2 := T.lx.2.2.1
      have h3 := T.ly.2.2.1
      exact ⟨by omega, by omega, by omega⟩
  · rw [List.mem_singleton] at hy
    subst hy
    have h1 := hf g hy'
    have h2 := (T.ow x hx).lt hg
    omega
set_option maxRecDepth 100000 in
theorem Tl.rawX {rx : NumR} (T : Tl w0 gx n gy m la lb os w) (hx : Hid (rx.A = some ⟨gx, 0, none⟩ ∧ rx.n = n ∧ rx.c = n + 3)) (hn : n ≤ 1000) : Raw w rx.A rx.n rx.c la := by
  rw [hx.out.1, hx.out.2.1, hx.out.2.2]; exact T.lx.raw hn
set_option maxRecDepth 100000 in
theorem Tl.rawY {ry : NumR} (T : Tl w0 gx n gy m la lb os w) (hy : Hid (ry.A = some ⟨gy, 0, none⟩ ∧ ry.n = m ∧ ry.c = m + 3)) (hm : m ≤ 1000) : Raw w ry.A ry.n ry.c lb := by
  rw [hy.out.1, hy.out.2.1, hy.out.2.2]; exact T.ly.raw hm
set_option maxRecDepth 100000 in
theorem Tl.alloc (T : Tl w0 gx n gy m la lb os w) (o : Obj) : Tl w0 gx n gy m la lb os (w.alloc o) := T.below ((Below.refl _ _).alloc (Nat.le_refl _) o)
set_option maxRecDepth 100000 in
theorem Tl.drew (T : Tl w0 gx n gy m la lb os w) : Tl w0 gx n gy m la lb os w.drew := T.below (Below.refl _ _).drew
set_option maxRecDepth 100000 in
/-- One row is written over. -/
theorem Tl.over (T : Tl w0 gx n gy m la lb (r :: os) w) (hg : w.grownBy w' (blk r)) : Tl w0 gx n gy m la lb os w' := by
  have hne : ∀ g, gx = g ∨ gy = g → some g ≠ blk r := fun g hg e => by
    have := T.far r List.mem_cons_self g e.symm
    omega
  refine ⟨T.lx.keep hg.size (hg.block gx T.lx.2.2.1 (hne gx (.inl rfl))), T.ly.keep hg.size (hg.block gy T.ly.2.2.1 (hne gy (.inr rfl))), fun x hx => ?_, fun x hx => T.far x (List.mem_cons_of_mem _ hx), (List.pairwise_cons.1 T.dis).2⟩
  refine (T.ow x (List.mem_cons_of_mem _ hx)).keep fun g hg' => hg.block g ((T.ow x (List.mem_cons_of_mem _ hx)).lt hg') fun e => ?_
  exact (List.pairwise_cons.1 T.dis).1 x hx g e.symm hg'
set_option maxRecDepth 100000 in
theorem Env.over (K : Env w0 ts bs w) (T : Tl w0 gx n gy m la lb (r :: os) w) (hg : w.grownBy w' (blk r)) : Env w0 [] bs w' := by
  refine ⟨K.bl.grown hg K.bl.size (fun k hk => (T.far r List.mem_cons_self k hk).2.2), fun x hx => by simp at hx, fun x hx => by simp at hx, fun x hx => ?_⟩
  have hb := K.bx x hx
  refine (hg.block x.1 hb.lt fun e => ?_).trans hb
  rcases T.ow r List.mem_cons_self with ⟨h1, _⟩ | ⟨g, cs, h1, h2, _⟩
  · simp [blk, h1] at e
  · simp [blk, h1] at e
    unfold Box at hb
    rw [e, h2.1] at hb
    injection hb with hb
    injection hb with _ ht
    exact absurd ht (by decide)
end

end Go.Proofs.YtejmmjedognaaaaGreat

namespace Go.Proofs.YtejmmjedognaaaaGreat
namespace Fl
open Ieee

def B : Nat := 4503599627370496
def S : Nat := 9223372036854775808
def INF : Nat := 9218868437227405312
def NAN : Nat := 9221120237041090561
set_option maxRecDepth 100000 in
theorem B_eq : B = 2 ^ 52 := by decide
set_option maxRecDepth 100000 in
theorem binade_eq : double.binade = B := by decide
set_option maxRecDepth 100000 in
theorem sw_eq : double.signWeight = S := by decide
set_option maxRecDepth 100000 in
theorem inf_eq : double.infRung = INF := by decide
set_option maxRecDepth 100000 in
theorem lp_eq : double.leastPlace = -1074 := by decide
set_option maxRecDepth 100000 in
theorem B_pos : 0 < B := by decide

def ng (a : Nat) : Bool := a / S % 2 == 1
def rg (a : Nat) : Nat := a % S
def mt (r : Nat) : Nat := if r < B then r else B + r % B
def pl (r : Nat) : Nat := if r < B then 0 else r / B - 1
/-- The value of a rung, in units of the least float. -/
def val (r : Nat) : Nat := mt r * 2 ^ pl r

set_option maxRecDepth 100000 in
theorem read_num {a : Nat} (h : rg a < INF) : double.read a = .number (ng a) (mt (rg a)) (-1074 + ((pl (rg a) : Nat) : Int)) := by
  unfold Format.read
  simp only [binade_eq, sw_eq, inf_eq, lp_eq]
  unfold rg at h
  by_cases hb : a % S < B
  · rw [if_pos hb]; simp [ng, rg, mt, pl, hb]
  · rw [if_neg hb, if_pos h]; simp [ng, rg, mt, pl, hb]
set_option maxRecDepth 100000 in
theorem read_inf {a : Nat} (h : rg a = INF) : double.read a = .infinity (ng a) := by
  unfold Format.read
  simp only [binade_eq, sw_eq, inf_eq]
  unfold rg at h
  rw [if_neg (by rw [h]; decide), if_neg (by rw [h]; decide), if_pos h]
  rfl
set_option maxRecDepth 100000 in
theorem read_nan {a : Nat} (h : INF < rg a) : double.read a = .nan (ng a) (rg a - INF) := by
  unfold Format.read
  simp only [binade_eq, sw_eq, inf_eq]
  unfold rg at h
  have : B < INF := by decide
  rw [if_neg (by omega), if_neg (by omega), if_neg (by omega)]
  rfl

/-- n / 2^d, to the nearest, ties to even. -/
def rne (n d : Nat) : Nat := n / 2 ^ d + (if 2 ^ d < 2 * (n % 2 ^ d) ∨ (2 ^ d = 2 * (n % 2 ^ d) ∧ n / 2 ^ d % 2 = 1) then 1 else 0)

set_option maxRecDepth 100000 in
theorem cut_even (neg : Bool) (n d : Nat) : Toward.even.cut neg n d = rne n d := by
  have key : ∀ g : Nat, n / g + (decide (g < 2 * (n % g)) || (g == 2 * (n % g) && n / g % 2 == 1)).toNat = n / g + (if g < 2 * (n % g) ∨ (g = 2 * (n % g) ∧ n / g % 2 = 1) then 1 else 0) := by
    intro g
    by_cases h1 : g < 2 * (n % g)
    · simp [h1]
    · by_cases h2 : g = 2 * (n % g) ∧ n / g % 2 = 1
      · rw [if_pos (Or.inr h2)]
        have a1 : (g == 2 * (n % g)) = true := by rw [beq_iff_eq]; exact h2.1
        have a2 : (n / g % 2 == 1) = true := by rw [beq_iff_eq]; exact h2.2
        simp [a1, a2]
      · rw [if_neg (by rintro (h | h); exact h1 h; exact h2 h)]
        have : (decide (g < 2 * (n % g)) || (g == 2 * (n % g) && n / g % 2 == 1)) = false := by
          rw [Bool.or_eq_false_iff]
          refine ⟨decide_eq_false h1, ?_⟩
          rw [Bool.and_eq_false_iff]
          by_cases h3 : g = 2 * (n % g)
          · right; rw [beq_eq_false_iff_ne]; exact fun h4 => h2 ⟨h3, h4⟩
          · left; rw [beq_eq_false_iff_ne]; exact h3
        rw [this]; rfl
  unfold Toward.cut
  simp only [Nat.shiftLeft_eq, Nat.one_mul]
  rw [key]
  unfold rne
  rcases Nat.lt_or_ge (n.log2 + 2) d with h | h
  rotate_left
  · rw [Nat.min_eq_left h]
  · rw [Nat.min_eq_right (by omega)]
    have h1 : n < 2 ^ (n.log2 + 1) := Nat.lt_log2_self
    have h2 : 2 ^ (n.log2 + 2) = 2 * 2 ^ (n.log2 + 1) := by rw [Nat.pow_succ, Nat.mul_comm]
    have h3 : 2 ^ (n.log2 + 2) ≤ 2 ^ d := Nat.pow_le_pow_right (by omega) (by omega)
    rw [Nat.div_eq_of_lt (show n < 2 ^ d by omega), Nat.div_eq_of_lt (show n < 2 ^ (n.log2 + 2) by omega), Nat.mod_eq_of_lt (show n < 2 ^ d by omega), Nat.mod_eq_of_lt (show n < 2 ^ (n.log2 + 2) by omega), if_neg (by omega), if_neg (by omega)]

set_option maxRecDepth 100000 in
theorem rne_shift (n d k : Nat) : rne (n * 2 ^ k) (d + k) = rne n d := by
  have hk : 0 < 2 ^ k := Nat.two_pow_pos k
  unfold rne
  rw [Nat.pow_add, Nat.mul_div_mul_right _ _ hk, Nat.mul_mod_mul_right]
  have e1 : (2 ^ d * 2 ^ k < 2 * (n % 2 ^ d * 2 ^ k)) ↔ 2 ^ d < 2 * (n % 2 ^ d) := by
    rw [← Nat.mul_assoc]; exact Nat.mul_lt_mul_right hk
  have e2 : (2 ^ d * 2 ^ k = 2 * (n % 2 ^ d * 2 ^ k)) ↔ 2 ^ d = 2 * (n % 2 ^ d) := by
    rw [← Nat.mul_assoc]; exact ⟨fun h => Nat.eq_of_mul_eq_mul_right hk h, fun h => congrArg (· * 2 ^ k) h⟩
  simp only [e1, e2]
set_option maxRecDepth 100000 in
theorem rne_zero (n : Nat) : rne n 0 = n := by
  unfold rne
  simp [Nat.mod_one]
set_option maxRecDepth 100000 in
theorem rne_mul (n k : Nat) : rne (n * 2 ^ k) k = n := by
  have := rne_shift n 0 k
  rw [Nat.zero_add, rne_zero] at this
  exact this

set_option maxRecDepth 100000 in
theorem log2_mul (n k : Nat) (h : n ≠ 0) : (n * 2 ^ k).log2 = n.log2 + k := by
  have hk : 0 < 2 ^ k := Nat.two_pow_pos k
  have h1 := Nat.log2_self_le h
  have h2 : n < 2 ^ (n.log2 + 1) := Nat.lt_log2_self
  have hne : n * 2 ^ k ≠ 0 := Nat.mul_ne_zero h (by omega)
  apply Nat.le_antisymm
  · have : n * 2 ^ k < 2 ^ (n.log2 + k + 1) := by
      rw [show n.log2 + k + 1 = n.log2 + 1 + k by omega, Nat.pow_add]
      exact Nat.mul_lt_mul_of_pos_right h2 hk
    have := (Nat.log2_lt hne).2 this
    omega
  · rw [Nat.le_log2 hne, Nat.pow_add]
    exact Nat.mul_le_mul_right _ h1

/-- The rung nearest to N * 2^-(1074+e). -/
def R (N e : Nat) : Nat := min ((max (N.log2 - 52) e - e) * B + rne N (max (N.log2 - 52) e)) INF

set_option maxRecDepth 100000 in
theorem rne_of_zero (d : Nat) : rne 0 d = 0 := by
  unfold rne
  have := Nat.two_pow_pos d
  simp
set_option maxRecDepth 100000 in
theorem R_zero (e : Nat) : R 0 e = 0 := by
  unfold R
  rw [show Nat.log2 0 = 0 by decide, rne_of_zero]
  simp

set_option maxRecDepth 100000 in
theorem nearest_R (neg : Bool) (m e k : Nat) : double.nearest neg m (-1074 - (e : Int) + (k : Int)) = double.word neg (R (m * 2 ^ k) e) := by
  unfold Format.nearest
  by_cases hm : m = 0
  · subst hm; rw [if_pos rfl, Nat.zero_mul, R_zero]
  · rw [if_neg hm]
    simp only [binade_eq, inf_eq, lp_eq, cut_even, Nat.shiftLeft_eq]
    unfold R
    rw [log2_mul m k hm, show double.fractionBits = 52 from rfl]
    generalize m.log2 = L
    have hl : max (-1074 - (e : Int) + (k : Int) + (L : Int) - ((52 : Nat) : Int)) (-1074) = -1074 - (e : Int) + ((max (L + k - 52) e : Nat) : Int) := by omega
    rw [hl]
    generalize hD : max (L + k - 52) e = D
    have h1 : (-1074 - (e : Int) + (D : Int) - -1074).toNat = D - e := by omega
    have h2 : (-1074 - (e : Int) + (k : Int) - (-1074 - (e : Int) + (D : Int))).toNat = k - D := by omega
    have h3 : (-1074 - (e : Int) + (D : Int) - (-1074 - (e : Int) + (k : Int))).toNat = D - k := by omega
    rw [h1, h2, h3]
    have h4 : rne (m * 2 ^ (k - D)) (D - k) = rne (m * 2 ^ k) D := by
      rcases Nat.le_total D k with h | h
      · have h5 : m * 2 ^ k = m * 2 ^ (k - D) * 2 ^ D := by rw [Nat.mul_assoc, ← Nat.pow_add, Nat.sub_add_cancel h]
        rw [h5, rne_mul, show D - k = 0 by omega, rne_zero]
      · have h5 : D = D - k + k := by omega
        rw [show k - D = 0 by omega, Nat.pow_zero, Nat.mul_one]
        conv => rhs; rw [h5]
        rw [rne_shift]
    rw [h4]

set_option maxRecDepth 100000 in
theorem R_shift (N e k : Nat) : R (N * 2 ^ k) (e + k) = R N e := by
  by_cases h : N = 0
  · subst h; rw [Nat.zero_mul, R_zero, R_zero]
  · unfold R
    rw [log2_mul N k h]
    generalize N.log2 = L
    rw [show max (L + k - 52) (e + k) = max (L - 52) e + k by omega, rne_shift]
    congr 3
    omega

set_option maxRecDepth 100000 in
theorem two53 : 2 ^ 53 = 2 * B := by decide
set_option maxRecDepth 100000 in
theorem mt_lt {r : Nat} : mt r < 2 * B := by
  unfold mt
  have := Nat.mod_lt r B_pos
  split <;> omega
set_option maxRecDepth 100000 in
theorem log2_mt {r : Nat} (h : ¬ r < B) : (mt r).log2 = 52 := by
  have h1 : mt r = B + r % B := by unfold mt; rw [if_neg h]
  have h2 := @mt_lt r
  have hne : mt r ≠ 0 := by have := B_pos; omega
  apply Nat.le_antisymm
  · have := (Nat.log2_lt (k := 53) hne).2 (by rw [two53]; omega)
    omega
  · rw [Nat.le_log2 hne]; rw [B_eq] at h1; omega

set_option maxRecDepth 100000 in
/-- A rung is found again. -/
theorem R_val {r : Nat} (h : r < INF) : R (val r) 0 = r := by
  unfold R val
  by_cases hb : r < B
  · have h1 : pl r = 0 := by unfold pl; rw [if_pos hb]
    have h2 : mt r = r := by unfold mt; rw [if_pos hb]
    rw [h1, h2, Nat.pow_zero, Nat.mul_one]
    have : r.log2 ≤ 52 := by
      rcases Nat.eq_zero_or_pos r with h0 | h0
      · subst h0; decide
      · have := (Nat.log2_lt (n := r) (k := 53) (by omega)).2 (by rw [two53]; omega)
        omega
    rw [show max (r.log2 - 52) 0 = 0 by omega, rne_zero]
    omega
  · have h1 : pl r = r / B - 1 := by unfold pl; rw [if_neg hb]
    have h2 : mt r = B + r % B := by unfold mt; rw [if_neg hb]
    have hne : mt r ≠ 0 := by have := B_pos; omega
    rw [log2_mul _ _ hne, log2_mt hb, show max (52 + pl r - 52) 0 = pl r by omega, rne_mul, h2, h1, Nat.sub_zero]
    have h3 := Nat.div_add_mod r B
    have h4 : 1 ≤ r / B := (Nat.le_div_iff_mul_le B_pos).2 (by omega)
    have h5 : (r / B - 1) * B + (B + r % B) = r := by
      rw [Nat.sub_mul, Nat.one_mul, Nat.mul_comm]
      have : B ≤ B * (r / B) := Nat.le_mul_of_pos_right _ (by omega)
      omega
    rw [h5]
    omega
set_option maxRecDepth 100000 in
theorem R_val' {r : Nat} (h : r < INF) (e : Nat) : R (val r * 2 ^ e) e = r := by
  have := R_shift (val r) 0 e
  rw [Nat.zero_add, R_val h] at this
  exact this

set_option maxRecDepth 100000 in
theorem val_succ (r : Nat) : val (r + 1) = val r + 2 ^ pl r := by
  have hB := B_pos
  unfold val mt pl
  by_cases h1 : r + 1 < B
  · rw [if_pos h1, if_pos h1, if_pos (by omega), if_pos (by omega)]; simp
  · by_cases h2 : r < B
    · have h3 : r + 1 = B := by omega
      rw [if_neg h1, if_neg h1, if_pos h2, if_pos h2, h3, Nat.mod_self, Nat.div_self hB]
      simp; omega
    · rw [if_neg h1, if_neg h1, if_neg h2, if_neg h2]
      have h3 := Nat.div_add_mod r B
      have h4 : 1 ≤ r / B := (Nat.le_div_iff_mul_le B_pos).2 (by omega)
      have h6 := Nat.mod_lt r hB
      generalize hq : r / B = q at *
      generalize hs : r % B = s at *
      by_cases h5 : s + 1 < B
      · have e1 : (r + 1) / B = q := by
          rw [← h3, Nat.add_assoc, Nat.mul_add_div hB, Nat.div_eq_of_lt h5, Nat.add_zero]
        have e2 : (r + 1) % B = s + 1 := by
          rw [← h3, Nat.add_assoc, Nat.mul_add_mod, Nat.mod_eq_of_lt h5]
        rw [e1, e2, ← Nat.add_assoc, Nat.add_mul (B + s) 1, Nat.one_mul]
      · have h7 : s + 1 = B := by omega
        have e1 : (r + 1) / B = q + 1 := by
          rw [← h3, Nat.add_assoc, h7, Nat.mul_add_div hB, Nat.div_self hB]
        have e2 : (r + 1) % B = 0 := by
          rw [← h3, Nat.add_assoc, h7, Nat.mul_add_mod, Nat.mod_self]
        rw [e1, e2, Nat.add_zero, show q + 1 - 1 = (q - 1) + 1 by omega, Nat.pow_succ]
        have : B + s = 2 * B - 1 := by omega
        rw [this]
        have hp := Nat.two_pow_pos (q - 1)
        generalize 2 ^ (q - 1) = t at *
        rw [Nat.sub_mul, Nat.one_mul]
        have : t ≤ 2 * B * t := Nat.le_mul_of_pos_left _ (by omega)
        have : B * (t * 2) = 2 * B * t := by rw [Nat.mul_comm t 2, ← Nat.mul_assoc, Nat.mul_comm B 2]
        omega

set_option maxRecDepth 100000 in
theorem val_lt {r s : Nat} (h : r < s) : val r < val s := by
  induction s with
  | zero => omega
  | succ s ih =>
    have := val_succ s
    have hp := Nat.two_pow_pos (pl s)
    rcases Nat.lt_or_eq_of_le (Nat.le_of_lt_succ h) with h | h
    · have := ih h; omega
    · subst h; omega
set_option maxRecDepth 100000 in
theorem val_le {r s : Nat} (h : r ≤ s) : val r ≤ val s := by
  rcases Nat.lt_or_eq_of_le h with h | h
  · exact Nat.le_of_lt (val_lt h)
  · rw [h]; exact Nat.le_refl _
set_option maxRecDepth 100000 in
theorem val_lt_iff {r s : Nat} : val r < val s ↔ r < s :=
  ⟨fun h => by rcases Nat.lt_or_ge r s with h' | h'
               · exact h'
               · have := val_le h'; omega, val_lt⟩
set_option maxRecDepth 100000 in
theorem val_inj {r s : Nat} (h : val r = val s) : r = s := by
  rcases Nat.lt_trichotomy r s with h' | h' | h'
  · have := val_lt h'; omega
  · exact h'
  · have := val_lt h'; omega
set_option maxRecDepth 100000 in
theorem val_zero : val 0 = 0 := by decide

end Fl
end Go.Proofs.YtejmmjedognaaaaGreat

namespace Go.Proofs.YtejmmjedognaaaaGreat
namespace Fl
open Ieee

def sgnd (s : Bool) (v : Nat) : Int := if s then -(v : Int) else (v : Int)
/-- The value of a word, in units of the least float; of infinities, as if they were the next number. -/
def sv (a : Nat) : Int := sgnd (ng a) (val (rg a))
def nanB (a : Nat) : Bool := decide (INF < rg a)

set_option maxRecDepth 100000 in
theorem signed_eq (s : Bool) (m k : Nat) : signed s m k = sgnd s (m * 2 ^ k) := by
  unfold signed sgnd
  rw [Nat.shiftLeft_eq]
set_option maxRecDepth 100000 in
theorem sgnd_mul (s : Bool) (v c : Nat) : sgnd s (v * c) = sgnd s v * (c : Int) := by
  unfold sgnd
  split
  · rw [Int.natCast_mul, Int.neg_mul]
  · rw [Int.natCast_mul]
set_option maxRecDepth 100000 in
theorem natAbs_sgnd (s : Bool) (v : Nat) : (sgnd s v).natAbs = v := by
  unfold sgnd; split <;> omega

set_option maxRecDepth 100000 in
theorem int_cmp (x y : Int) : compare x y = if x < y then .lt else if x = y then .eq else .gt := by
  rfl
set_option maxRecDepth 100000 in
theorem cmp_lt {x y : Int} (h : x < y) : compare x y = .lt := by rw [int_cmp, if_pos h]
set_option maxRecDepth 100000 in
theorem cmp_eq {x y : Int} (h : x = y) : compare x y = .eq := by rw [int_cmp, if_neg (by omega), if_pos h]
set_option maxRecDepth 100000 in
theorem cmp_gt {x y : Int} (h : y < x) : compare x y = .gt := by rw [int_cmp, if_neg (by omega), if_neg (by omega)]
set_option maxRecDepth 100000 in
theorem int_cmp_mul (x y : Int) (c : Nat) (hc : 0 < c) : compare (x * (c : Int)) (y * (c : Int)) = compare x y := by
  have hc' : (0 : Int) < (c : Int) := by omega
  rw [int_cmp, int_cmp]
  have e1 : x * (c : Int) < y * (c : Int) ↔ x < y := ⟨fun h => Int.lt_of_mul_lt_mul_right h (by omega), fun h => Int.mul_lt_mul_of_pos_right h hc'⟩
  have e2 : x * (c : Int) = y * (c : Int) ↔ x = y := ⟨fun h => Int.eq_of_mul_eq_mul_right (by omega) h, fun h => by rw [h]⟩
  simp only [e1, e2]

set_option maxRecDepth 100000 in
theorem split_pow (m p q : Nat) (h : q ≤ p) : m * 2 ^ (p - q) * 2 ^ q = m * 2 ^ p := by
  rw [Nat.mul_assoc, ← Nat.pow_add, Nat.sub_add_cancel h]

set_option maxRecDepth 100000 in
theorem base_eq (p q : Nat) : min (-1074 + (p : Int)) (-1074 + (q : Int)) = -1074 + ((min p q : Nat) : Int) := by omega

set_option maxRecDepth 100000 in
theorem order_num {a b : Nat} (ha : rg a < INF) (hb : rg b < INF) : double.order a b = some (compare (sv a) (sv b)) := by
  unfold Format.order
  rw [read_num ha, read_num hb]
  simp only [Datum.order, base_eq, signed_eq]
  have h1 : (-1074 + ((pl (rg a) : Nat) : Int) - (-1074 + ((min (pl (rg a)) (pl (rg b)) : Nat) : Int))).toNat = pl (rg a) - min (pl (rg a)) (pl (rg b)) := by omega
  have h2 : (-1074 + ((pl (rg b) : Nat) : Int) - (-1074 + ((min (pl (rg a)) (pl (rg b)) : Nat) : Int))).toNat = pl (rg b) - min (pl (rg a)) (pl (rg b)) := by omega
  rw [h1, h2]
  have hp := Nat.two_pow_pos (min (pl (rg a)) (pl (rg b)))
  rw [← int_cmp_mul _ _ _ hp, ← sgnd_mul, ← sgnd_mul, split_pow _ _ _ (Nat.min_le_left ..), split_pow _ _ _ (Nat.min_le_right ..)]
  rfl

set_option maxRecDepth 100000 in
theorem order_any {a b : Nat} (ha : rg a ≤ INF) (hb : rg b ≤ INF) : double.order a b = some (compare (sv a) (sv b)) := by
  rcases Nat.lt_or_eq_of_le ha with h1 | h1
  · rcases Nat.lt_or_eq_of_le hb with h2 | h2
    · exact order_num h1 h2
    · unfold Format.order
      rw [read_num h1, read_inf h2]
      simp only [Datum.order]
      have h3 := val_lt h1
      have h4 := natAbs_sgnd (ng a) (val (rg a))
      unfold sv
      rw [h2]
      generalize sgnd (ng a) (val (rg a)) = x at *
      cases hb : ng b
      · rw [cmp_lt (by unfold sgnd; simp; omega)]; rfl
      · rw [cmp_gt (by unfold sgnd; simp; omega)]; rfl
  · rcases Nat.lt_or_eq_of_le hb with h2 | h2
    · unfold Format.order
      rw [read_inf h1, read_num h2]
      simp only [Datum.order]
      have h3 := val_lt h2
      have h4 := natAbs_sgnd (ng b) (val (rg b))
      unfold sv
      rw [h1]
      generalize sgnd (ng b) (val (rg b)) = x at *
      cases ha : ng a
      · rw [cmp_gt (by unfold sgnd; simp; omega)]; rfl
      · rw [cmp_lt (by unfold sgnd; simp; omega)]; rfl
    · unfold Format.order
      rw [read_inf h1, read_inf h2]
      simp only [Datum.order]
      have h3 : 0 < val INF := by have := val_lt (show 0 < INF by decide); omega
      unfold sv
      rw [h1, h2]
      generalize val INF = t at *
      cases hb : ng b <;> cases ha : ng a
      · rw [cmp_eq rfl]; rfl
      · rw [cmp_lt (by unfold sgnd; simp; omega)]; rfl
      · rw [cmp_gt (by unfold sgnd; simp; omega)]; rfl
      · rw [cmp_eq rfl]; rfl
set_option maxRecDepth 100000 in
theorem order_nan {a b : Nat} (h : nanB a = true ∨ nanB b = true) : double.order a b = none := by
  unfold Format.order
  rcases h with h | h
  · rw [read_nan (of_decide_eq_true h)]; rfl
  · rw [read_nan (a := b) (of_decide_eq_true h)]
    cases double.read a <;> rfl
set_option maxRecDepth 100000 in
theorem order_self (a : Nat) : (double.order a a != some .eq) = nanB a := by
  cases h : nanB a with
  | true => rw [order_nan (Or.inl h)]; rfl
  | false =>
    have : rg a ≤ INF := by unfold nanB at h; have := of_decide_eq_false h; omega
    rw [order_any this this, int_cmp, if_neg (by omega), if_pos rfl]; rfl

/-- Rungs with signs. -/
def si (a : Nat) : Int := sgnd (ng a) (rg a)
set_option maxRecDepth 100000 in
theorem sv_lt_iff (a b : Nat) : sv a < sv b ↔ si a < si b := by
  unfold sv si sgnd
  have h1 := @val_lt_iff (rg a) (rg b)
  have h2 := @val_lt_iff (rg b) (rg a)
  have h3 := @val_lt_iff 0 (rg a)
  have h4 := @val_lt_iff 0 (rg b)
  rw [val_zero] at h3 h4
  cases ng a <;> cases ng b <;> simp <;> omega

set_option maxRecDepth 100000 in
theorem word_ng {s : Bool} {r : Nat} (h : r < S) : ng (double.word s r) = s := by
  unfold ng Format.word
  rw [sw_eq]
  have hS : 0 < S := by decide
  cases s
  · simp [Nat.div_eq_of_lt h]
  · simp only [if_true]
    have : (S + r) / S = 1 := by rw [Nat.add_div_left _ hS, Nat.div_eq_of_lt h]
    rw [this]; rfl
set_option maxRecDepth 100000 in
theorem word_rg {s : Bool} {r : Nat} (h : r < S) : rg (double.word s r) = r := by
  unfold rg Format.word
  rw [sw_eq]
  cases s
  · simp [Nat.mod_eq_of_lt h]
  · simp [Nat.add_mod_left, Nat.mod_eq_of_lt h]
set_option maxRecDepth 100000 in
theorem word_eq {a : Nat} (h : a < 2 * S) : double.word (ng a) (rg a) = a := by
  unfold Format.word ng rg
  rw [sw_eq]
  have hS : 0 < S := by decide
  have h1 := Nat.div_add_mod a S
  have h2 : a / S < 2 := (Nat.div_lt_iff_lt_mul hS).2 (by omega)
  have h3 : a / S = 0 ∨ a / S = 1 := by
    clear h1
    generalize a / S = q at *
    omega
  rcases h3 with h3 | h3
  · rw [h3] at h1
    rw [h3, if_neg (by decide)]; omega
  · rw [h3] at h1
    rw [h3, if_pos (by decide)]; omega
set_option maxRecDepth 100000 in
theorem INF_lt_S : INF < S := by decide
set_option maxRecDepth 100000 in
theorem R_le (N e : Nat) : R N e ≤ INF := by unfold R; omega
set_option maxRecDepth 100000 in
theorem R_lt (N e : Nat) : R N e < S := Nat.lt_of_le_of_lt (R_le N e) INF_lt_S

/-- A word that is no NaN. -/
def Num (d : Datum) : Prop := match d with | .nan .. => False | _ => True
set_option maxRecDepth 100000 in
theorem write_num {d : Datum} (h : Num d) : nanB (double.write d) = false := by
  cases d with
  | nan => exact absurd h id
  | infinity s =>
    unfold Format.write nanB
    rw [inf_eq, word_rg INF_lt_S]
    decide
  | number s m p =>
    have : ∃ r, r ≤ INF ∧ double.nearest s m p = double.word s r := by
      unfold Format.nearest
      simp only []
      split
      · exact ⟨0, Nat.zero_le _, rfl⟩
      · refine ⟨_, ?_, rfl⟩
        rw [inf_eq]; exact Nat.min_le_right ..
    obtain ⟨r, h1, h2⟩ := this
    show nanB (double.nearest s m p) = false
    rw [h2]
    unfold nanB
    rw [word_rg (Nat.lt_of_le_of_lt h1 INF_lt_S)]
    exact decide_eq_false (by omega)
set_option maxRecDepth 100000 in
theorem sum_num {x y d : Datum} (h : x.sum y = some d) : Num d := by
  cases x <;> cases y <;> simp [Datum.sum] at h <;> first | (subst h; trivial) | (obtain ⟨_, rfl⟩ := h; trivial)
set_option maxRecDepth 100000 in
theorem product_num {x y d : Datum} (h : x.product y = some d) : Num d := by
  cases x <;> cases y <;> simp [Datum.product] at h <;> first | (subst h; trivial) | (obtain ⟨_, rfl⟩ := h; trivial)
set_option maxRecDepth 100000 in
theorem quotient_num {k : Nat} {x y d : Datum} (h : x.quotient k y = some d) : Num d := by
  cases x <;> cases y <;> simp only [Datum.quotient, reduceCtorEq, Option.some.injEq] at h
  · split at h
    · split at h
      · cases h
      · cases h; trivial
    · cases h; trivial
  · subst h; trivial
  · subst h; trivial
set_option maxRecDepth 100000 in
theorem map_write_num {o : Option Datum} {r : Nat} (hn : ∀ d, o = some d → Num d) (h : o.map double.write = some r) : nanB r = false := by
  cases o with
  | none => cases h
  | some d => cases h; exact write_num (hn d rfl)
set_option maxRecDepth 100000 in
/-- What an operation gives is no NaN, where it gives anything. -/
theorem floatBits_num {op : BinOp} {a b r : Nat} (h : floatBits op .f64 a b = some r) : nanB r = false := by
  unfold floatBits at h
  split at h
  · exact map_write_num (fun _ => sum_num) h
  · exact map_write_num (fun _ => sum_num) h
  · exact map_write_num (fun _ => product_num) h
  · exact map_write_num (fun _ => quotient_num) h
  · cases h

end Fl
end Go.Proofs.YtejmmjedognaaaaGreat
