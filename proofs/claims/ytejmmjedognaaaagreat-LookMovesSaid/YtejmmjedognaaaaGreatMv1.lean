/-
  WHAT A LAW's PROOF CLOSES WITH: the call has changed nothing that was there.
  A HEAP THAT LIES IN A ROW (container/heap), and slots: plain mathematics. Nothing of the program stands here.
  WORLDS THAT HAVE TURNED IN SOME BLOCKS ALONE; append, as one step.
  DUMPS in memory: rows of words, regions, dumps, slots.
-/
import Derived.Test.YtejmmjedognaaaaGreatRows
import Derived.ProofKit
import Derived.OpenShut
import Derived.Lib.SmallJoins
import Derived.Carry
import Derived.Test.YtejmmjedognaaaaGreatProg
import Derived.WalkKit
import Derived.WalkSpells
import Derived.Lib.Hide
import Derived.Below
import Derived.Deep.RegionLaw
import Derived.Deep.Draws
import Derived.Maps.AppendAt
import Derived.Lib.BitFns
import Derived.BigQuiet
import Derived.Deep.QuietTactic
namespace Go.Proofs.YtejmmjedognaaaaGreat
open Go.ChangeShapes Go.WideShapes Go.ChangeAt Go.RowKit

set_option maxRecDepth 100000 in
theorem own : ownKnob Tryz.prog.godebug = none := by kernel_rfl

set_option maxRecDepth 100000 in
theorem law_post {H : Type} {enc : TypeId × Value → H} {P : Program} {f : Func} {s : ChangeSpec} {W W' : World} {args : Array Value} {v : Value} {ds gs : List (DataW H)} {before pa pv : List MemPlace}
    (hW : DataW.Whole enc P f.params.toList s.vars false W args.toList ds gs before)
    (hres : DataW.TrodAll enc P W' W.heap.size (fun _ => false) false f.resultTypes.toList (v.resultList f.resultTypes.size) (s.fn H (ds ++ gs)).results [])
    (hargs : DataW.TrodAll enc P W' 0 (fun b => decide (b < W.heap.size)) true f.params.toList args.toList (s.fn H (ds ++ gs)).args pa)
    (hvars : DataW.TrodVars enc P W' (fun b => decide (b < W.heap.size)) s.vars (s.fn H (ds ++ gs)).vars pv)
    (hps : before = pa ++ pv) (hb : Below W.heap.size W W') : s.post enc P f false true false false W args v W' :=
  ⟨ds, gs, before, [], pa, pv, hW, hres, hargs, hvars, World.keptBut_mono (fun p hp => ⟨hp, by rw [hps, List.mem_append] at hp; exact Or.inr hp⟩) (hb.frame (· ∈ before)), fun h => by cases h⟩

set_option maxRecDepth 100000 in
theorem laidOut : laidOutB Tryz.prog = true := by kernel_rfl
end Go.Proofs.YtejmmjedognaaaaGreat

namespace Go.Proofs.YtejmmjedognaaaaGreat
namespace St

/-- Two of a row change places. -/
def swp (d : Nat → Nat) (i j : Nat) : Nat → Nat := fun x => if x = j then d i else if x = i then d j else d x
set_option maxRecDepth 100000 in
theorem swp_j (d : Nat → Nat) (i j : Nat) : swp d i j j = d i := by simp [swp]
set_option maxRecDepth 100000 in
theorem swp_i (d : Nat → Nat) (i j : Nat) : swp d i j i = d j := by
  unfold swp
  split
  · next h => rw [h]
  · simp
set_option maxRecDepth 100000 in
theorem swp_o (d : Nat → Nat) {i j x : Nat} (h1 : x ≠ i) (h2 : x ≠ j) : swp d i j x = d x := by simp [swp, h1, h2]

/-- None lies above one that it is not lesser than: the row is a heap. -/
def Hp (n : Nat) (d : Nat → Nat) : Prop := ∀ k, 0 < k → k < n → d ((k - 1) / 2) ≤ d k
set_option maxRecDepth 100000 in
theorem Hp.min {n : Nat} {d : Nat → Nat} (h : Hp n d) : ∀ k, k < n → d 0 ≤ d k := by
  intro k
  induction k using Nat.strongRecOn with
  | ind k ih =>
    intro hk
    by_cases h0 : k = 0
    · subst h0; exact Nat.le_refl _
    · exact Nat.le_trans (ih ((k - 1) / 2) (by omega) (by omega)) (h k (by omega) hk)

/-- The same numbers stand in the first n places, in another order; behind them nothing has turned. -/
structure Pm (n : Nat) (d d' : Nat → Nat) : Prop where
  fro : ∀ k, k < n → ∃ l, l < n ∧ d' k = d l
  to : ∀ k, k < n → ∃ l, l < n ∧ d k = d' l
  inj : (∀ k l, k < n → l < n → d k = d l → k = l) → ∀ k l, k < n → l < n → d' k = d' l → k = l
  out : ∀ k, n ≤ k → d' k = d k
set_option maxRecDepth 100000 in
theorem Pm.refl (n : Nat) (d : Nat → Nat) : Pm n d d := ⟨fun k h => ⟨k, h, rfl⟩, fun k h => ⟨k, h, rfl⟩, fun h => h, fun _ _ => rfl⟩
set_option maxRecDepth 100000 in
theorem Pm.trans {n : Nat} {d d' d'' : Nat → Nat} (h : Pm n d d') (g : Pm n d' d'') : Pm n d d'' := by
  refine ⟨fun k hk => ?_, fun k hk => ?_, fun hi => g.inj (h.inj hi), fun k hk => (g.out k hk).trans (h.out k hk)⟩
  · obtain ⟨l, hl, e⟩ := g.fro k hk
    obtain ⟨l', hl', e'⟩ := h.fro l hl
    exact ⟨l', hl', e.trans e'⟩
  · obtain ⟨l, hl, e⟩ := h.to k hk
    obtain ⟨l', hl', e'⟩ := g.to l hl
    exact ⟨l', hl', e.trans e'⟩
set_option maxRecDepth 100000 in
theorem Pm.swp {n i j : Nat} (d : Nat → Nat) (hi : i < n) (hj : j < n) : Pm n d (swp d i j) := by
  have key : ∀ k, k < n → ∃ l, l < n ∧ St.swp d i j k = d l ∧ d k = St.swp d i j l := by
    intro k hk
    by_cases h1 : k = j
    · subst h1; exact ⟨i, hi, swp_j _ _ _, (swp_i _ _ _).symm⟩
    · by_cases h2 : k = i
      · subst h2; exact ⟨j, hj, swp_i _ _ _, (swp_j _ _ _).symm⟩
      · exact ⟨k, hk, swp_o _ h2 h1, (swp_o _ h2 h1).symm⟩
  refine ⟨fun k hk => ?_, fun k hk => ?_, fun hi' k l hk hl e => ?_, fun k hk => swp_o _ (by omega) (by omega)⟩
  · obtain ⟨l, h1, h2, _⟩ := key k hk; exact ⟨l, h1, h2⟩
  · obtain ⟨l, h1, _, h2⟩ := key k hk; exact ⟨l, h1, h2⟩
  · unfold St.swp at e
    by_cases k1 : k = j <;> by_cases k2 : k = i <;> by_cases l1 : l = j <;> by_cases l2 : l = i <;> simp only [k1, k2, l1, l2, if_true, if_false] at e <;> first
      | omega
      | (have := hi' _ _ (by omega) (by omega) e; omega)
      | (simp_all; first | done | (have := hi' _ _ (by omega) (by omega) e; omega) | (split at e <;> have := hi' _ _ (by omega) (by omega) e <;> omega))

/-- A heap, but where j stands. -/
structure UpI (n j : Nat) (d : Nat → Nat) : Prop where
  h1 : ∀ k, 0 < k → k < n → k ≠ j → d ((k - 1) / 2) ≤ d k
  h2 : ∀ k, 0 < k → k < n → (k - 1) / 2 = j → 0 < j → d ((j - 1) / 2) ≤ d k
set_option maxRecDepth 100000 in
theorem UpI.snoc {n : Nat} {d : Nat → Nat} (h : Hp n d) : UpI (n + 1) n d := ⟨fun k h0 hk hne => h k h0 (by omega), fun k h0 hk e _ => by omega⟩
set_option maxRecDepth 100000 in
theorem UpI.done {n j : Nat} {d : Nat → Nat} (h : UpI n j d) (hj : j = 0 ∨ d ((j - 1) / 2) ≤ d j) : Hp n d := by
  intro k h0 hk
  by_cases e : k = j
  · subst e
    rcases hj with hj | hj
    · omega
    · exact hj
  · exact h.h1 k h0 hk e
set_option maxRecDepth 100000 in
theorem UpI.step {n j : Nat} {d : Nat → Nat} (h : UpI n j d) (h0 : 0 < j) (hj : j < n) (hlt : d j < d ((j - 1) / 2)) : UpI n ((j - 1) / 2) (swp d ((j - 1) / 2) j) := by
  obtain ⟨i, hi⟩ : ∃ i, i = (j - 1) / 2 := ⟨_, rfl⟩
  have hij : i < j := by omega
  rw [← hi] at hlt ⊢
  refine ⟨fun k k0 hk hne => ?_, fun k k0 hk e i0 => ?_⟩
  · by_cases hkj : k = j
    · subst hkj
      rw [← hi, swp_i, swp_j]
      omega
    · rw [swp_o d hne hkj]
      by_cases p1 : (k - 1) / 2 = j
      · rw [p1, swp_j, hi]
        exact h.h2 k k0 hk p1 h0
      · by_cases p2 : (k - 1) / 2 = i
        · have := h.h1 k k0 hk hkj
          rw [p2] at this ⊢
          rw [swp_i]
          omega
        · rw [swp_o d p2 p1]
          exact h.h1 k k0 hk hkj
  · have hp := h.h1 i i0 (by omega) (by omega)
    rw [swp_o d (x := (i - 1) / 2) (by omega) (by omega)]
    by_cases hkj : k = j
    · subst hkj
      rw [swp_j]
      exact hp
    · rw [swp_o d (by omega) hkj]
      have := h.h1 k k0 hk hkj
      rw [e] at this
      omega

/-- A heap, but below i. -/
structure DnI (n i : Nat) (d : Nat → Nat) : Prop where
  h1 : ∀ k, 0 < k → k < n → (k - 1) / 2 ≠ i → d ((k - 1) / 2) ≤ d k
  h2 : ∀ k, 0 < k → k < n → (k - 1) / 2 = i → 0 < i → d ((i - 1) / 2) ≤ d k
set_option maxRecDepth 100000 in
theorem DnI.first {n : Nat} {d : Nat → Nat} (h : Hp (n + 1) d) : DnI n 0 (swp d 0 n) := by
  refine ⟨fun k k0 hk hne => ?_, fun k k0 hk e h => by omega⟩
  rw [swp_o d hne (by omega), swp_o d (by omega) (by omega)]
  exact h k k0 (by omega)
set_option maxRecDepth 100000 in
theorem DnI.done {n i : Nat} {d : Nat → Nat} (h : DnI n i d) (hc : ∀ k, 0 < k → k < n → (k - 1) / 2 = i → d i ≤ d k) : Hp n d := by
  intro k h0 hk
  by_cases e : (k - 1) / 2 = i
  · rw [e]; exact hc k h0 hk e
  · exact h.h1 k h0 hk e
set_option maxRecDepth 100000 in
theorem DnI.step {n i j : Nat} {d : Nat → Nat} (h : DnI n i d) (h0 : 0 < j) (hj : j < n) (e : (j - 1) / 2 = i) (hlt : d j < d i) (hc : ∀ k, 0 < k → k < n → (k - 1) / 2 = i → d j ≤ d k) : DnI n j (swp d i j) := by
  have hij : i < j := by omega
  refine ⟨fun k k0 hk hne => ?_, fun k k0 hk e' _ => ?_⟩
  · by_cases hkj : k = j
    · subst hkj
      rw [e, swp_i, swp_j]
      omega
    · by_cases p : (k - 1) / 2 = i
      · rw [p, swp_i, swp_o d (by omega) hkj]
        exact hc k k0 hk p
      · rw [swp_o d p hne]
        by_cases hki : k = i
        · subst hki
          rw [swp_i]
          exact h.h2 j h0 hj e k0
        · rw [swp_o d hki hkj]
          exact h.h1 k k0 hk p
  · rw [e, swp_i, swp_o d (by omega) (by omega)]
    have := h.h1 k k0 hk (by omega)
    rw [e'] at this
    exact this

/-- A slot: its stamp, its count, its bytes. -/
structure Slt where
  st : Int
  ct : Int
  tx : ByteArray
def Slt.zero : Slt := ⟨0, 0, ⟨#[]⟩⟩
def gt (L : List Slt) (i : Nat) : Slt := L.getD i Slt.zero
set_option maxRecDepth 100000 in
theorem gt_set_same {L : List Slt} {i : Nat} (s : Slt) (h : i < L.length) : gt (L.set i s) i = s := by simp [gt, h]
set_option maxRecDepth 100000 in
theorem gt_set_other {L : List Slt} {i j : Nat} (s : Slt) (h : i ≠ j) : gt (L.set i s) j = gt L j := by simp [gt, List.getElem?_set_ne h]
set_option maxRecDepth 100000 in
theorem gt_old {L : List Slt} {i : Nat} (s : Slt) (h : i < L.length) : gt (L ++ [s]) i = gt L i := by simp [gt, List.getElem?_append_left h]
set_option maxRecDepth 100000 in
theorem gt_new (L : List Slt) (s : Slt) : gt (L ++ [s]) L.length = s := by simp [gt]
set_option maxRecDepth 100000 in
theorem gt_get {L : List Slt} {i : Nat} (h : i < L.length) : L[i]? = some (gt L i) := by simp [gt, h]

/-- How many are in use; how many bytes there are. -/
def usd : List Slt → Nat
  | [] => 0
  | s :: L => (if 0 < s.ct then 1 else 0) + usd L
def sumb : List Slt → Nat
  | [] => 0
  | s :: L => s.tx.size + sumb L
set_option maxRecDepth 100000 in
theorem usd_snoc (L : List Slt) (s : Slt) : usd (L ++ [s]) = usd L + (if 0 < s.ct then 1 else 0) := by
  induction L with
  | nil => simp [usd]
  | cons a L ih => rw [List.cons_append, usd, ih, usd]; omega
set_option maxRecDepth 100000 in
theorem sumb_snoc (L : List Slt) (s : Slt) : sumb (L ++ [s]) = sumb L + s.tx.size := by
  induction L with
  | nil => simp [sumb]
  | cons a L ih => rw [List.cons_append, sumb, ih, sumb]; omega
set_option maxRecDepth 100000 in
theorem usd_set (L : List Slt) (i : Nat) (s : Slt) (h : i < L.length) : usd (L.set i s) + (if 0 < (gt L i).ct then 1 else 0) = usd L + (if 0 < s.ct then 1 else 0) := by
  induction L generalizing i with
  | nil => simp at h
  | cons a L ih =>
    cases i with
    | zero => simp [usd, gt]; omega
    | succ i =>
      have := ih i (by simpa using h)
      simp only [List.set_cons_succ, usd]
      have e : gt (a :: L) (i + 1) = gt L i := by simp [gt]
      rw [e]
      omega
set_option maxRecDepth 100000 in
theorem sumb_set (L : List Slt) (i : Nat) (s : Slt) (h : i < L.length) : sumb (L.set i s) + (gt L i).tx.size = sumb L + s.tx.size := by
  induction L generalizing i with
  | nil => simp at h
  | cons a L ih =>
    cases i with
    | zero => simp [sumb, gt]; omega
    | succ i =>
      have := ih i (by simpa using h)
      simp only [List.set_cons_succ, sumb]
      have e : gt (a :: L) (i + 1) = gt L i := by simp [gt]
      rw [e]
      omega

/-- The free slots stand in a row, as a heap; the counts are not below 0. -/
structure Inv (L : List Slt) (m : Nat) (d : Nat → Nat) : Prop where
  hp : Hp m d
  inj : ∀ k l, k < m → l < m → d k = d l → k = l
  lt : ∀ k, k < m → d k < L.length ∧ (gt L (d k)).ct = 0
  all : ∀ i, i < L.length → (gt L i).ct = 0 → ∃ k, k < m ∧ d k = i
  pos : ∀ i, i < L.length → 0 ≤ (gt L i).ct
  cnt : m + usd L = L.length
set_option maxRecDepth 100000 in
theorem Inv.nil (d : Nat → Nat) : Inv [] 0 d := ⟨fun k _ h => by omega, fun k l h => by omega, fun k h => by omega, fun i h => by simp at h, fun i h => by simp at h, rfl⟩

/-- The free slot with the smallest number. -/
def fr : List Slt → Nat
  | [] => 0
  | s :: L => if 0 < s.ct then fr L + 1 else 0
set_option maxRecDepth 100000 in
theorem fr_le (L : List Slt) : fr L ≤ L.length := by
  induction L with
  | nil => simp [fr]
  | cons a L ih => simp only [fr, List.length_cons]; split <;> omega
set_option maxRecDepth 100000 in
theorem fr_before (L : List Slt) : ∀ i, i < fr L → 0 < (gt L i).ct := by
  induction L with
  | nil => intro i h; simp [fr] at h
  | cons a L ih =>
    intro i h
    simp only [fr] at h
    split at h
    · next ha =>
      cases i with
      | zero => simpa [gt] using ha
      | succ i => simpa [gt] using ih i (by omega)
    · omega
set_option maxRecDepth 100000 in
theorem fr_at (L : List Slt) (h : fr L < L.length) : (gt L (fr L)).ct ≤ 0 := by
  induction L with
  | nil => simp at h
  | cons a L ih =>
    simp only [fr] at h ⊢
    split
    · next ha =>
      rw [if_pos ha] at h
      have := ih (by simpa using h)
      simpa [gt] using this
    · next ha => simpa [gt] using Int.not_lt.1 ha
set_option maxRecDepth 100000 in
theorem fr_eq {L : List Slt} {i : Nat} (hi : i ≤ L.length) (h1 : ∀ k, k < i → 0 < (gt L k).ct) (h2 : i < L.length → (gt L i).ct ≤ 0) : fr L = i := by
  have a := fr_le L
  rcases Nat.lt_trichotomy (fr L) i with h | h | h
  · have := fr_at L (by omega)
    have := h1 _ h
    omega
  · exact h
  · have := fr_before L i h
    have := h2 (by omega)
    omega
/-- What Put leaves. -/
def putL (L : List Slt) (b : ByteArray) : List Slt :=
  if fr L < L.length then L.set (fr L) ⟨(gt L (fr L)).st + 1, 1, b⟩ else L ++ [⟨1, 1, b⟩]
/-- The error of a slot and a stamp. -/
def err (L : List Slt) (slot stamp : Int) : Int :=
  if slot < 0 ∨ (L.length : Int) ≤ slot ∨ (gt L slot.toNat).ct = 0 then 4 else if (gt L slot.toNat).st = stamp then 0 else 6
/-- What Inc and Dec leave. -/
def cntL (L : List Slt) (i : Nat) (k : Int) : List Slt :=
  L.set i ⟨(gt L i).st, (gt L i).ct + k, if (gt L i).ct + k = 0 then ⟨#[]⟩ else (gt L i).tx⟩
set_option maxRecDepth 100000 in
theorem cntL_len (L : List Slt) (i : Nat) (k : Int) : (cntL L i k).length = L.length := by simp [cntL]

set_option maxRecDepth 100000 in
theorem Inv.empty {L : List Slt} {d : Nat → Nat} (h : Inv L 0 d) : fr L = L.length := by
  refine fr_eq (Nat.le_refl _) (fun k hk => ?_) (fun h => by omega)
  have h1 := h.pos k hk
  rcases Int.lt_or_eq_of_le h1 with h2 | h2
  · exact h2
  · obtain ⟨_, h3, _⟩ := h.all k hk h2.symm
    omega
set_option maxRecDepth 100000 in
theorem Inv.first {L : List Slt} {m : Nat} {d : Nat → Nat} (h : Inv L (m + 1) d) : fr L = d 0 := by
  obtain ⟨h1, h2⟩ := h.lt 0 (by omega)
  refine fr_eq (Nat.le_of_lt h1) (fun k hk => ?_) (fun _ => by omega)
  have h3 := h.pos k (by omega)
  rcases Int.lt_or_eq_of_le h3 with h4 | h4
  · exact h4
  · obtain ⟨q, h5, h6⟩ := h.all k (by omega) h4.symm
    have := h.hp.min q h5
    omega
set_option maxRecDepth 100000 in
/-- A new slot. -/
theorem Inv.grow {L : List Slt} {d : Nat → Nat} (h : Inv L 0 d) (b : ByteArray) : Inv (putL L b) 0 d ∧ putL L b = (L ++ [Slt.zero]).set L.length ⟨1, 1, b⟩ := by
  have e := h.empty
  have e2 : putL L b = L ++ [⟨1, 1, b⟩] := by unfold putL; rw [if_neg (by omega)]
  refine ⟨?_, by rw [e2]; simp⟩
  rw [e2]
  refine ⟨fun k _ h => by omega, fun k l h => by omega, fun k h => by omega, fun i hi hc => ?_, fun i hi => ?_, ?_⟩
  · rcases Nat.lt_or_ge i L.length with h1 | h1
    · rw [gt_old _ h1] at hc
      exact h.all i h1 hc
    · simp at hi
      rw [show i = L.length by omega, gt_new] at hc
      simp at hc
  · rcases Nat.lt_or_ge i L.length with h1 | h1
    · rw [gt_old _ h1]
      exact h.pos i h1
    · simp at hi
      rw [show i = L.length by omega, gt_new]
      simp
  · rw [usd_snoc]
    have := h.cnt
    simp
    omega
set_option maxRecDepth 100000 in
/-- The smallest one is taken out. -/
theorem Inv.take {L : List Slt} {m : Nat} {d d' : Nat → Nat} (h : Inv L (m + 1) d) (b : ByteArray) (hp : Hp m d') (pm : Pm m (swp d 0 m) d') : Inv (putL L b) m d' ∧ d 0 < L.length ∧ putL L b = L.set (d 0) ⟨(gt L (d 0)).st + 1, 1, b⟩ := by
  have e := h.first
  obtain ⟨h1, h2⟩ := h.lt 0 (by omega)
  have e2 : putL L b = L.set (d 0) ⟨(gt L (d 0)).st + 1, 1, b⟩ := by unfold putL; rw [e, if_pos h1]
  refine ⟨?_, h1, e2⟩
  rw [e2]
  have sw : ∀ k, k < m → ∃ l, l < m + 1 ∧ l ≠ 0 ∧ swp d 0 m k = d l := by
    intro k hk
    by_cases k0 : k = 0
    · subst k0
      refine ⟨m, by omega, by omega, swp_i _ _ _⟩
    · exact ⟨k, by omega, k0, swp_o _ k0 (by omega)⟩
  have ne : ∀ k, k < m → ∃ l, l < m + 1 ∧ d' k = d l ∧ d' k ≠ d 0 := by
    intro k hk
    obtain ⟨l, hl, e1⟩ := pm.fro k hk
    obtain ⟨l', hl', h0, e3⟩ := sw l hl
    refine ⟨l', hl', e1.trans e3, fun e4 => h0 ?_⟩
    exact h.inj l' 0 hl' (by omega) (by rw [← e3, ← e1]; exact e4)
  refine ⟨hp, pm.inj (fun k l hk hl e => ?_), fun k hk => ?_, fun i hi hc => ?_, fun i hi => ?_, ?_⟩
  · have := (Pm.swp d (show 0 < m + 1 by omega) (show m < m + 1 by omega)).inj h.inj k l (by omega) (by omega) e
    exact this
  · obtain ⟨l, hl, e1, e3⟩ := ne k hk
    obtain ⟨h3, h4⟩ := h.lt l hl
    rw [List.length_set, gt_set_other _ (fun e => e3 e.symm), e1]
    exact ⟨h3, h4⟩
  · rw [List.length_set] at hi
    by_cases hid : d 0 = i
    · subst hid
      rw [gt_set_same _ hi] at hc
      simp at hc
    · rw [gt_set_other _ hid] at hc
      obtain ⟨k, hk, e4⟩ := h.all i hi hc
      have k0 : k ≠ 0 := by rintro rfl; exact hid e4
      have : ∃ k', k' < m ∧ swp d 0 m k' = i := by
        by_cases hkm : k = m
        · subst hkm
          exact ⟨0, by omega, by rw [swp_i]; exact e4⟩
        · exact ⟨k, by omega, by rw [swp_o _ k0 hkm]; exact e4⟩
      obtain ⟨k', hk', e5⟩ := this
      obtain ⟨l, hl, e6⟩ := pm.to k' hk'
      exact ⟨l, hl, by rw [← e6]; exact e5⟩
  · rw [List.length_set] at hi
    by_cases hid : d 0 = i
    · subst hid
      rw [gt_set_same _ hi]
      simp
    · rw [gt_set_other _ hid]
      exact h.pos i hi
  · have a := usd_set L (d 0) ⟨(gt L (d 0)).st + 1, 1, b⟩ h1
    rw [h2] at a
    have := h.cnt
    simp at a ⊢
    omega
set_option maxRecDepth 100000 in
/-- One is counted, and stays in use. -/
theorem Inv.count {L : List Slt} {m : Nat} {d : Nat → Nat} (h : Inv L m d) {i : Nat} (hi : i < L.length) (h0 : (gt L i).ct ≠ 0) (k : Int) (hk : 0 < (gt L i).ct + k) : Inv (cntL L i k) m d := by
  have h1 := h.pos i hi
  unfold cntL
  refine ⟨h.hp, h.inj, fun q hq => ?_, fun q hq hc => ?_, fun q hq => ?_, ?_⟩
  · obtain ⟨h2, h3⟩ := h.lt q hq
    have : i ≠ d q := by rintro rfl; exact h0 h3
    rw [List.length_set, gt_set_other _ this]
    exact ⟨h2, h3⟩
  · rw [List.length_set] at hq
    by_cases e : i = q
    · subst e
      rw [gt_set_same _ hi] at hc
      simp only at hc
      omega
    · rw [gt_set_other _ e] at hc
      exact h.all q hq hc
  · rw [List.length_set] at hq
    by_cases e : i = q
    · subst e
      rw [gt_set_same _ hi]
      simp only
      omega
    · rw [gt_set_other _ e]
      exact h.pos q hq
  · have a := usd_set L i ⟨(gt L i).st, (gt L i).ct + k, if (gt L i).ct + k = 0 then ⟨#[]⟩ else (gt L i).tx⟩ hi
    simp only at a
    rw [if_pos (show 0 < (gt L i).ct by omega), if_pos hk] at a
    have := h.cnt
    rw [List.length_set]
    omega
set_option maxRecDepth 100000 in
/-- One is free. -/
theorem Inv.free {L : List Slt} {m : Nat} {d d1 d' : Nat → Nat} (h : Inv L m d) {i : Nat} (hi : i < L.length) (h0 : (gt L i).ct ≠ 0) (k : Int) (hk : (gt L i).ct + k = 0) (e1 : ∀ q, q < m → d1 q = d q) (e2 : d1 m = i) (hp : Hp (m + 1) d') (pm : Pm (m + 1) d1 d') : Inv (cntL L i k) (m + 1) d' := by
  have h1 := h.pos i hi
  have ne : ∀ q, q < m → i ≠ d q := fun q hq => by rintro rfl; exact h0 (h.lt q hq).2
  have at1 : ∀ q, q < m + 1 → d1 q < L.length ∧ (gt (cntL L i k) (d1 q)).ct = 0 := by
    intro q hq
    unfold cntL
    by_cases hqm : q = m
    · subst hqm
      rw [e2, gt_set_same _ hi]
      exact ⟨hi, hk⟩
    · rw [e1 q (by omega), gt_set_other _ (ne q (by omega))]
      exact h.lt q (by omega)
  refine ⟨hp, pm.inj (fun q l hq hl e => ?_), fun q hq => ?_, fun q hq hc => ?_, fun q hq => ?_, ?_⟩
  · by_cases hqm : q = m <;> by_cases hlm : l = m
    · omega
    · subst hqm
      rw [e2, e1 l (by omega)] at e
      exact absurd e (ne l (by omega))
    · subst hlm
      rw [e2, e1 q (by omega)] at e
      exact absurd e.symm (ne q (by omega))
    · rw [e1 q (by omega), e1 l (by omega)] at e
      exact h.inj q l (by omega) (by omega) e
  · obtain ⟨l, hl, e⟩ := pm.fro q hq
    rw [e, cntL_len]
    exact at1 l hl
  · rw [cntL_len] at hq
    have : ∃ l, l < m + 1 ∧ d1 l = q := by
      by_cases e : i = q
      · exact ⟨m, by omega, by rw [e2]; exact e⟩
      · unfold cntL at hc
        rw [gt_set_other _ e] at hc
        obtain ⟨l, hl, e3⟩ := h.all q hq hc
        exact ⟨l, by omega, by rw [e1 l hl]; exact e3⟩
    obtain ⟨l, hl, e⟩ := this
    obtain ⟨l', hl', e'⟩ := pm.to l hl
    exact ⟨l', hl', by rw [← e']; exact e⟩
  · rw [cntL_len] at hq
    unfold cntL
    by_cases e : i = q
    · subst e
      rw [gt_set_same _ hi]
      simp only
      omega
    · rw [gt_set_other _ e]
      exact h.pos q hq
  · have a := usd_set L i ⟨(gt L i).st, (gt L i).ct + k, if (gt L i).ct + k = 0 then ⟨#[]⟩ else (gt L i).tx⟩ hi
    simp only at a
    rw [if_pos (show 0 < (gt L i).ct by omega), if_neg (show ¬ 0 < (gt L i).ct + k by omega)] at a
    have := h.cnt
    rw [cntL_len]
    unfold cntL
    omega
end St
end Go.Proofs.YtejmmjedognaaaaGreat

namespace Go.Proofs.YtejmmjedognaaaaGreat
open Go.RowKit

/-- What has turned lies in K, or is new. -/
structure Chg (K : Nat → Prop) (a b : World) : Prop where
  os : b.os = a.os
  tape : b.tape = a.tape
  output : b.output = a.output
  size : a.heap.size ≤ b.heap.size
  block : ∀ k, k < a.heap.size → ¬ K k → b.heap[k]? = a.heap[k]?
namespace Chg
variable {K K' : Nat → Prop} {a b c : World}
set_option maxRecDepth 100000 in
theorem refl (K : Nat → Prop) (a : World) : Chg K a a := ⟨rfl, rfl, rfl, Nat.le_refl _, fun _ _ _ => rfl⟩
set_option maxRecDepth 100000 in
theorem trans (h : Chg K a b) (g : Chg K' b c) (hk : ∀ k, k < a.heap.size → K' k → K k) : Chg K a c :=
  ⟨g.os.trans h.os, g.tape.trans h.tape, g.output.trans h.output, Nat.le_trans h.size g.size, fun k hk1 hk2 => (g.block k (Nat.lt_of_lt_of_le hk1 h.size) (fun e => hk2 (hk k hk1 e))).trans (h.block k hk1 hk2)⟩
set_option maxRecDepth 100000 in
theorem mono (h : Chg K a b) (hk : ∀ k, k < a.heap.size → K k → K' k) : Chg K' a b := ⟨h.os, h.tape, h.output, h.size, fun k h1 h2 => h.block k h1 fun e => h2 (hk k h1 e)⟩
set_option maxRecDepth 100000 in
theorem grown {r : Option Nat} (h : a.grownBy b r) (hk : ∀ k, r = some k → K k) : Chg K a b := ⟨h.os, h.tape, h.output, h.size, fun k h1 h2 => h.block k h1 fun e => h2 (hk k e.symm)⟩
set_option maxRecDepth 100000 in
theorem below (h : Below a.heap.size a b) : Chg K a b := ⟨h.os, h.tape, h.output, h.size, fun k h1 _ => h.block k h1⟩
set_option maxRecDepth 100000 in
theorem setCell (h : Chg K a b) {p : Addr} (hp : K p.block ∨ a.heap.size ≤ p.block) (v : Value) : Chg K a (b.setCell p v) :=
  ⟨h.os, h.tape, h.output, by simpa using h.size, fun k h1 h2 => (heap_setCell_other b p k v (fun e => by
    rcases hp with hp | hp
    · exact h2 (by simpa [e] using hp)
    · omega)).trans (h.block k h1 h2)⟩
set_option maxRecDepth 100000 in
theorem drewN (h : Chg K a b) (q : Nat) : Chg K a (b.drewN q) := ⟨h.os, h.tape, h.output, h.size, h.block⟩
set_option maxRecDepth 100000 in
theorem toBelow (h : Chg K a b) {B : Nat} (hk : ∀ k, K k → B ≤ k) (hB : B ≤ a.heap.size) : Below B a b := ⟨h.os, h.tape, h.output, h.size, fun k h1 => h.block k (Nat.lt_of_lt_of_le h1 hB) fun e => by have := hk k e; omega⟩
end Chg

set_option maxRecDepth 100000 in
theorem own_of (A : Option Addr) (n c : Nat) : (Value.slice A n c).ownBlock = A.map (·.block) := by cases A <;> rfl

set_option maxRecDepth 100000 in
/-- append, as one step of a region. -/
theorem wpApp {P : Program} {w w' : World} {ops : Array Oper} {rest : List Oper} {o : Oper} {a : Act} {Q : Exit → Act → World → Prop} (hgd : o.guard = none) (s x : Operand) (t : TypeId)
    (ho : o.op = .call { callee := .builtin .append, args := #[s, x], argTypes := #[t, t] }) (v y v' : Value) (hs : a.eval s = v) (hx : a.eval x = y)
    (hrun : (Builtin.append_ #[t, t] o.type #[v, y]).run P w = .ok v' w') (h : wpList P ops Q rest (a.put o.dst v') w') : wpList P ops Q (o :: rest) a w := by
  refine wpList_plain hgd fun K hK' => ?_
  unfold Oper.wp
  simp [execOp, ho, resolve, invoke, builtin, hs, hx, hrun, Result.andThen]
  exact hK' _ _ h

set_option maxRecDepth 100000 in
/-- append, as one step of a region that draws. -/
theorem step_apnd {P : Program} {ops : Array Oper} {o : Oper} {a : Act} {w w' : World} {K : Act → World → Prop} {Q : Exit → Act → World → Prop} {E : Prop}
    (hg : o.guard = none) (s x : Operand) (t : TypeId) (hop : o.op = Op.call { callee := Callee.builtin Builtin.append, args := #[s, x], argTypes := #[t, t] })
    (v y v' : Value) (hs : a.eval s = v) (hx : a.eval x = y) (hrun : (Builtin.append_ #[t, t] o.type #[v, y]).run P w = .ok v' w')
    (hK : K (a.put o.dst v') w') : if Region.wanted o (yielded ops a.tmps) = true then Oper.wp P o a w K Q else E := by
  have hw : Region.wanted o (yielded ops a.tmps) = true := by simp [Region.wanted, hg]
  rw [if_pos hw]
  unfold Oper.wp
  simp [execOp, hop, resolve, invoke, builtin, hs, hx, hrun, Result.andThen]
  exact hK
end Go.Proofs.YtejmmjedognaaaaGreat

namespace Go.Proofs.YtejmmjedognaaaaGreat
open Go.RowKit
open St

/-- Numbers of a kind in memory. -/
structure Zs (q : IntKind) (w : World) (A : Option Addr) (n c : Nat) (zs : List Int) : Prop where
  len : zs.length = n
  nc : n ≤ c
  cm : c ≤ maxLen
  wf : ∀ z ∈ zs, (Lit.int q z).wf = true
  el : 0 < n → ∃ b o, A = some ⟨b, o, none⟩ ∧ b < w.heap.size ∧ ∀ j, j < n → w.cell? ⟨b, o + j, none⟩ = some (.int q (zs.getD j 0))
namespace Zs
variable {q : IntKind} {w w' : World} {A : Option Addr} {n c : Nat} {zs : List Int}
set_option maxRecDepth 100000 in
theorem nil (q : IntKind) (w : World) : Zs q w none 0 0 [] := ⟨rfl, Nat.le_refl _, Nat.zero_le _, (fun z h => by cases h), fun h => by omega⟩
set_option maxRecDepth 100000 in
theorem below (h : Zs q w A n c zs) (hb : Below w.heap.size w w') : Zs q w' A n c zs := by
  refine ⟨h.len, h.nc, h.cm, h.wf, fun hn => ?_⟩
  obtain ⟨b, o, e, hlt, hc⟩ := h.el hn
  exact ⟨b, o, e, Nat.lt_of_lt_of_le hlt hb.size, fun j hj => (hb.cell (p := ⟨b, o + j, none⟩) hlt).trans (hc j hj)⟩
set_option maxRecDepth 100000 in
theorem drewN (h : Zs q w A n c zs) (k : Nat) : Zs q (w.drewN k) A n c zs := ⟨h.len, h.nc, h.cm, h.wf, h.el⟩
set_option maxRecDepth 100000 in
theorem some (h : Zs q w A n c zs) (hn : 0 < n) : ∃ b o, A = Option.some ⟨b, o, none⟩ ∧ b < w.heap.size := by
  obtain ⟨b, o, e, hlt, _⟩ := h.el hn
  exact ⟨b, o, e, hlt⟩
variable {b o : Nat}
set_option maxRecDepth 100000 in
theorem at_ (h : Zs q w (Option.some ⟨b, o, none⟩) n c zs) {j : Nat} (hj : j < n) : w.cell? ⟨b, o + j, none⟩ = Option.some (.int q (zs.getD j 0)) := by
  obtain ⟨b', o', e, _, hc⟩ := h.el (by omega)
  cases e
  exact hc j hj
set_option maxRecDepth 100000 in
theorem wfAt (h : Zs q w A n c zs) {j : Nat} (hj : j < n) : (Lit.int q (zs.getD j 0)).wf = true := by
  have : zs.getD j 0 = zs[j]'(by rw [h.len]; exact hj) := by simp [h.len, hj]
  rw [this]
  exact h.wf _ (List.getElem_mem _)
set_option maxRecDepth 100000 in
/-- A part of it. -/
theorem part (h : Zs q w (Option.some ⟨b, o, none⟩) n c zs) {lo m : Nat} (hlo : lo + m ≤ n) {o' : Nat} (ho : m = 0 ∨ o' = o + lo) : Zs q w (Option.some ⟨b, o', none⟩) m (c - lo) ((zs.drop lo).take m) := by
  have h1 := h.nc
  have h2 := h.cm
  have h3 := h.len
  refine ⟨by rw [List.length_take, List.length_drop]; omega, by omega, by omega, fun z hz => h.wf z (List.mem_of_mem_drop (List.mem_of_mem_take hz)), fun hm => ?_⟩
  obtain ⟨b', o2, e, hlt, hc⟩ := h.el (by omega)
  cases e
  refine ⟨b, o', rfl, hlt, fun j hj => ?_⟩
  have he : o' = o + lo := by omega
  rw [he, Nat.add_assoc, hc (lo + j) (by omega)]
  congr 2
  rw [List.getD_eq_getElem?_getD, List.getD_eq_getElem?_getD, List.getElem?_take_of_lt hj, List.getElem?_drop]
end Zs

/-- A region, as it stands; and what it is. -/
structure FR where
  at_ : Int
  A : Option Addr
  n : Nat
  c : Nat
def FR.zero : FR := ⟨0, none, 0, 0⟩
instance : Inhabited FR := ⟨FR.zero⟩
structure Frg where
  at_ : Int
  ws : List Int
def Frg.zero : Frg := ⟨0, []⟩
instance : Inhabited Frg := ⟨Frg.zero⟩
def FR.cells (r : FR) : List Value := [.int .i64 r.at_, .slice r.A r.n r.c]
/-- A region in memory. -/
structure FV (w : World) (r : FR) (f : Frg) : Prop where
  at_ : r.at_ = f.at_
  wf : (Lit.int .i64 f.at_).wf = true
  ws : Zs .u64 w r.A r.n r.c f.ws
set_option maxRecDepth 100000 in
theorem FV.below {w w' : World} {r : FR} {f : Frg} (h : FV w r f) (hb : Below w.heap.size w w') : FV w' r f := ⟨h.at_, h.wf, h.ws.below hb⟩
set_option maxRecDepth 100000 in
theorem FV.drewN {w : World} {r : FR} {f : Frg} (h : FV w r f) (k : Nat) : FV (w.drewN k) r f := ⟨h.at_, h.wf, h.ws.drewN k⟩
/-- A row of regions in memory. -/
structure FVs (w : World) (A : Option Addr) (m c : Nat) (rs : List FR) (fs : List Frg) : Prop where
  len : rs.length = m
  lef : fs.length = m
  mc : m ≤ c
  cm : c ≤ maxLen
  el : 0 < m → ∃ b o, A = some ⟨b, o, none⟩ ∧ b < w.heap.size ∧ ∀ i, i < m → ∀ j, j < 2 → w.cell? ⟨b, o + i * 2 + j, none⟩ = (rs.getD i FR.zero).cells[j]?
  fv : ∀ i, i < m → FV w (rs.getD i FR.zero) (fs.getD i Frg.zero)
namespace FVs
variable {w w' : World} {A : Option Addr} {m c : Nat} {rs : List FR} {fs : List Frg}
set_option maxRecDepth 100000 in
theorem below (h : FVs w A m c rs fs) (hb : Below w.heap.size w w') : FVs w' A m c rs fs := by
  refine ⟨h.len, h.lef, h.mc, h.cm, fun hn => ?_, fun i hi => (h.fv i hi).below hb⟩
  obtain ⟨b, o, e, hlt, hc⟩ := h.el hn
  exact ⟨b, o, e, Nat.lt_of_lt_of_le hlt hb.size, fun i hi j hj => (hb.cell (p := ⟨b, o + i * 2 + j, none⟩) hlt).trans (hc i hi j hj)⟩
set_option maxRecDepth 100000 in
theorem drewN (h : FVs w A m c rs fs) (k : Nat) : FVs (w.drewN k) A m c rs fs := ⟨h.len, h.lef, h.mc, h.cm, h.el, fun i hi => (h.fv i hi).drewN k⟩
set_option maxRecDepth 100000 in
theorem some (h : FVs w A m c rs fs) (hn : 0 < m) : ∃ b o, A = Option.some ⟨b, o, none⟩ ∧ b < w.heap.size := by
  obtain ⟨b, o, e, hlt, _⟩ := h.el hn
  exact ⟨b, o, e, hlt⟩
variable {b o : Nat}
set_option maxRecDepth 100000 in
theorem at_ (h : FVs w (Option.some ⟨b, o, none⟩) m c rs fs) {i : Nat} (hi : i < m) : w.cell? ⟨b, o + i * 2, none⟩ = Option.some (.int .i64 (rs.getD i FR.zero).at_) ∧ w.cell? ⟨b, o + i * 2 + 1, none⟩ = Option.some (.slice (rs.getD i FR.zero).A (rs.getD i FR.zero).n (rs.getD i FR.zero).c) := by
  obtain ⟨b', o', e, _, hc⟩ := h.el (by omega)
  cases e
  exact ⟨hc i hi 0 (by omega), hc i hi 1 (by omega)⟩
end FVs

/-- A dump, as it stands; and what it is. -/
structure DR where
  y : FR
  o : FR
  size : Int
  mark : Int
  F : Option Addr
  fm : Nat
  fc : Nat
  R : Option Addr
  rm : Nat
  rc : Nat
  H : Option Addr
  hm : Nat
  hc : Nat
  rs : List FR
structure Dmp where
  y : Frg
  o : Frg
  size : Int
  mark : Int
  fs : List Frg
  roots : List Int
  hs : List Int
def DR.val (r : DR) : Value := .agg #[.int .i64 r.y.at_, .slice r.y.A r.y.n r.y.c, .int .i64 r.o.at_, .slice r.o.A r.o.n r.o.c, .int .i64 r.size, .int .i64 r.mark, .slice r.F r.fm r.fc, .slice r.R r.rm r.rc, .slice r.H r.hm r.hc]
/-- A dump in memory. -/
structure DV (w : World) (r : DR) (d : Dmp) : Prop where
  y : FV w r.y d.y
  o : FV w r.o d.o
  size : r.size = d.size
  mark : r.mark = d.mark
  wfs : (Lit.int .i64 d.size).wf = true
  wfm : (Lit.int .i64 d.mark).wf = true
  fs : FVs w r.F r.fm r.fc r.rs d.fs
  roots : Zs .u64 w r.R r.rm r.rc d.roots
  hs : Zs .i64 w r.H r.hm r.hc d.hs
set_option maxRecDepth 100000 in
theorem DV.below {w w' : World} {r : DR} {d : Dmp} (h : DV w r d) (hb : Below w.heap.size w w') : DV w' r d := ⟨h.y.below hb, h.o.below hb, h.size, h.mark, h.wfs, h.wfm, h.fs.below hb, h.roots.below hb, h.hs.below hb⟩
set_option maxRecDepth 100000 in
theorem DV.drewN {w : World} {r : DR} {d : Dmp} (h : DV w r d) (k : Nat) : DV (w.drewN k) r d := ⟨h.y.drewN k, h.o.drewN k, h.size, h.mark, h.wfs, h.wfm, h.fs.drewN k, h.roots.drewN k, h.hs.drewN k⟩

/-- Slots in memory, that came in. -/
instance : Inhabited Slt := ⟨Slt.zero⟩
def sltCells (s : Slt) : List Value := [.int .i64 s.st, .int .i64 s.ct, .string s.tx]
structure SLs (w : World) (A : Option Addr) (m c : Nat) (L : List Slt) : Prop where
  len : L.length = m
  mc : m ≤ c
  cm : c ≤ maxLen
  wf : ∀ i, i < m → (Lit.int .i64 (gt L i).st).wf = true ∧ (Lit.int .i64 (gt L i).ct).wf = true ∧ (gt L i).tx.size ≤ maxLen
  el : 0 < m → ∃ b o, A = some ⟨b, o, none⟩ ∧ b < w.heap.size ∧ ∀ i, i < m → ∀ j, j < 3 → w.cell? ⟨b, o + i * 3 + j, none⟩ = (sltCells (gt L i))[j]?
namespace SLs
variable {w w' : World} {A : Option Addr} {m c : Nat} {L : List Slt}
set_option maxRecDepth 100000 in
theorem below (h : SLs w A m c L) (hb : Below w.heap.size w w') : SLs w' A m c L := by
  refine ⟨h.len, h.mc, h.cm, h.wf, fun hn => ?_⟩
  obtain ⟨b, o, e, hlt, hc⟩ := h.el hn
  exact ⟨b, o, e, Nat.lt_of_lt_of_le hlt hb.size, fun i hi j hj => (hb.cell (p := ⟨b, o + i * 3 + j, none⟩) hlt).trans (hc i hi j hj)⟩
set_option maxRecDepth 100000 in
theorem drewN (h : SLs w A m c L) (k : Nat) : SLs (w.drewN k) A m c L := ⟨h.len, h.mc, h.cm, h.wf, h.el⟩
set_option maxRecDepth 100000 in
theorem some (h : SLs w A m c L) (hn : 0 < m) : ∃ b o, A = Option.some ⟨b, o, none⟩ ∧ b < w.heap.size := by
  obtain ⟨b, o, e, hlt, _⟩ := h.el hn
  exact ⟨b, o, e, hlt⟩
variable {b o : Nat}
set_option maxRecDepth 100000 in
theorem at_ (h : SLs w (Option.some ⟨b, o, none⟩) m c L) {i : Nat} (hi : i < m) : w.cell? ⟨b, o + i * 3, none⟩ = Option.some (.int .i64 (gt L i).st) ∧ w.cell? ⟨b, o + i * 3 + 1, none⟩ = Option.some (.int .i64 (gt L i).ct) ∧ w.cell? ⟨b, o + i * 3 + 2, none⟩ = Option.some (.string (gt L i).tx) := by
  obtain ⟨b', o', e, _, hc⟩ := h.el (by omega)
  cases e
  exact ⟨hc i hi 0 (by omega), hc i hi 1 (by omega), hc i hi 2 (by omega)⟩
end SLs
end Go.Proofs.YtejmmjedognaaaaGreat
