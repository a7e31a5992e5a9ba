/-
  PACKAGE arena: regions as a row of numbers; what each call leaves; no Go.
-/
import Derived.Test.YtmgikdkcdihdlaaProg
import Derived.Maps.OwnSet
import Derived.WalkKit
namespace Go.Proofs.Ytmgikdkcdihdlaa
open Go.RowKit
namespace An

/-- The words of all regions. -/
def sumn : List (Int × Int) → Int
  | [] => 0
  | p :: L => p.2 + sumn L
/-- How many words the region has that begins at k. -/
def fnd (k : Int) : List (Int × Int) → Option Int
  | [] => none
  | p :: L => if p.1 = k then some p.2 else fnd k L
/-- Without the region that begins at k. -/
def rem (k : Int) : List (Int × Int) → List (Int × Int)
  | [] => []
  | p :: L => if p.1 = k then L else p :: rem k L

set_option maxRecDepth 100000 in
theorem sumn_snoc (L : List (Int × Int)) (p : Int × Int) : sumn (L ++ [p]) = sumn L + p.2 := by
  induction L with
  | nil => simp [sumn]
  | cons a L ih => simp only [List.cons_append, sumn, ih]; omega
set_option maxRecDepth 100000 in
theorem sumn_app (L M : List (Int × Int)) : sumn (L ++ M) = sumn L + sumn M := by
  induction L with
  | nil => simp [sumn]
  | cons a L ih => simp only [List.cons_append, sumn, ih]; omega
set_option maxRecDepth 100000 in
theorem fnd_snoc (L : List (Int × Int)) (p : Int × Int) (k : Int) (h : ∀ q ∈ L, q.1 ≠ p.1) : fnd k (L ++ [p]) = if k = p.1 then some p.2 else fnd k L := by
  induction L with
  | nil =>
    simp only [List.nil_append, fnd]
    by_cases e : p.1 = k
    · rw [if_pos e, if_pos e.symm]
    · rw [if_neg e, if_neg (fun h => e h.symm)]
  | cons a L ih =>
    have h1 := h a (by simp)
    have h2 := ih (fun q hq => h q (by simp [hq]))
    simp only [List.cons_append, fnd, h2]
    by_cases e : a.1 = k
    · subst e
      rw [if_pos rfl, if_pos rfl, if_neg h1]
    · rw [if_neg e, if_neg e]
set_option maxRecDepth 100000 in
theorem fnd_mem {L : List (Int × Int)} {k n : Int} (h : fnd k L = some n) : (k, n) ∈ L := by
  induction L with
  | nil => cases h
  | cons a L ih =>
    simp only [fnd] at h
    by_cases e : a.1 = k
    · rw [if_pos e] at h
      cases h
      subst e
      simp
    · rw [if_neg e] at h
      exact List.mem_cons_of_mem _ (ih h)
set_option maxRecDepth 100000 in
theorem fnd_none {L : List (Int × Int)} {k : Int} : fnd k L = none ↔ ∀ q ∈ L, q.1 ≠ k := by
  induction L with
  | nil => simp [fnd]
  | cons a L ih =>
    simp only [fnd]
    by_cases e : a.1 = k
    · rw [if_pos e]
      constructor
      · intro h; cases h
      · intro h; exact absurd e (h a (by simp))
    · rw [if_neg e, ih]
      simp [e]
set_option maxRecDepth 100000 in
theorem rem_sub {L : List (Int × Int)} {k : Int} : ∀ q ∈ rem k L, q ∈ L := by
  induction L with
  | nil => intro q h; cases h
  | cons a L ih =>
    intro q h
    simp only [rem] at h
    by_cases e : a.1 = k
    · rw [if_pos e] at h
      exact List.mem_cons_of_mem _ h
    · rw [if_neg e] at h
      rcases List.mem_cons.1 h with rfl | h
      · simp
      · exact List.mem_cons_of_mem _ (ih q h)
set_option maxRecDepth 100000 in
theorem rem_none {L : List (Int × Int)} {k : Int} (h : fnd k L = none) : rem k L = L := by
  induction L with
  | nil => rfl
  | cons a L ih =>
    simp only [fnd] at h
    by_cases e : a.1 = k
    · rw [if_pos e] at h; cases h
    · rw [if_neg e] at h
      simp only [rem, if_neg e, ih h]
set_option maxRecDepth 100000 in
theorem rem_sum {L : List (Int × Int)} {k n : Int} (h : fnd k L = some n) : sumn (rem k L) + n = sumn L ∧ (rem k L).length + 1 = L.length := by
  induction L with
  | nil => cases h
  | cons a L ih =>
    simp only [fnd] at h
    by_cases e : a.1 = k
    · rw [if_pos e] at h
      cases h
      simp only [rem, if_pos e, sumn, List.length_cons]
      exact ⟨Int.add_comm _ _, trivial⟩
    · rw [if_neg e] at h
      have := ih h
      simp only [rem, if_neg e, sumn, List.length_cons]
      omega
set_option maxRecDepth 100000 in
theorem rem_dis {L : List (Int × Int)} {k : Int} (h : L.Pairwise (fun p q => p.1 ≠ q.1)) : (rem k L).Pairwise (fun p q => p.1 ≠ q.1) := by
  induction L with
  | nil => exact h
  | cons a L ih =>
    obtain ⟨h1, h2⟩ := List.pairwise_cons.1 h
    simp only [rem]
    by_cases e : a.1 = k
    · rw [if_pos e]; exact h2
    · rw [if_neg e]
      exact List.pairwise_cons.2 ⟨fun q hq => h1 q (rem_sub q hq), ih h2⟩
set_option maxRecDepth 100000 in
theorem fnd_rem {L : List (Int × Int)} (h : L.Pairwise (fun p q => p.1 ≠ q.1)) (k j : Int) : fnd j (rem k L) = if j = k then none else fnd j L := by
  induction L with
  | nil => simp [rem, fnd]
  | cons a L ih =>
    obtain ⟨h1, h2⟩ := List.pairwise_cons.1 h
    have := ih h2
    simp only [rem]
    by_cases e : a.1 = k
    · rw [if_pos e]
      by_cases e2 : j = k
      · rw [if_pos e2]
        subst e2
        refine fnd_none.2 fun q hq => ?_
        rw [← e]
        exact (h1 q hq).symm
      · rw [if_neg e2]
        simp only [fnd]
        rw [if_neg (fun h : a.1 = j => e2 (by omega))]
    · rw [if_neg e]
      simp only [fnd, this]
      by_cases e2 : j = k
      · rw [if_pos e2, if_neg (fun h : a.1 = j => e (by omega)), if_pos e2]
      · rw [if_neg e2, if_neg e2]

/-- An arena: its budget, the address behind the region allocated last, what is charged, the regions. -/
structure Ars where
  bud : Int
  beh : Int
  chg : Int
  L : List (Int × Int)

/-- Bounds. -/
structure Ok (T : Int) (s : Ars) : Prop where
  len : (s.L.length : Int) ≤ T
  bud : 0 ≤ s.bud ∧ s.bud ≤ 16777216
  beh : 0 ≤ s.beh ∧ s.beh ≤ T * 16777217
  chg : 0 ≤ s.chg ∧ s.chg ≤ T * 16777216
  el : ∀ p ∈ s.L, (1 ≤ p.1 ∧ p.1 ≤ s.beh) ∧ 1 ≤ p.2 ∧ p.2 ≤ 16777216
  dis : s.L.Pairwise (fun p q => p.1 ≠ q.1)
set_option maxRecDepth 100000 in
theorem sumn_bd {L : List (Int × Int)} (h : ∀ p ∈ L, 1 ≤ p.2 ∧ p.2 ≤ 16777216) : 0 ≤ sumn L ∧ sumn L ≤ (L.length : Int) * 16777216 := by
  induction L with
  | nil => simp [sumn]
  | cons a L ih =>
    have h1 := h a (by simp)
    have h2 := ih (fun p hp => h p (by simp [hp]))
    simp only [sumn, List.length_cons]
    omega
set_option maxRecDepth 100000 in
theorem Ok.sum {T : Int} {s : Ars} (h : Ok T s) : 0 ≤ sumn s.L ∧ sumn s.L ≤ T * 16777216 := by
  have h1 := sumn_bd (fun p hp => (h.el p hp).2)
  have h2 := h.len
  omega
set_option maxRecDepth 100000 in
theorem Ok.mono {T T' : Int} {s : Ars} (h : Ok T s) (hT : T ≤ T') : Ok T' s :=
  ⟨by have := h.len; omega, h.bud, by have := h.beh; omega, by have := h.chg; omega, h.el, h.dis⟩
set_option maxRecDepth 100000 in
theorem Ok.new {b : Int} (hb : 0 ≤ b ∧ b ≤ 16777216) : Ok 0 ⟨b, 0, 0, []⟩ := ⟨by simp, hb, by simp, by simp, (fun p h => by cases h), List.Pairwise.nil⟩

/-- The error of a call for n more words. -/
def wr (s : Ars) (n least : Int) : Int := if n < least ∨ 16777216 < n then 2 else if 0 < s.bud ∧ s.bud < sumn s.L + s.chg + n then 7 else 0
def takeS (s : Ars) (n : Int) : Ars := if wr s n 1 = 0 then ⟨s.bud, s.beh + 1 + n, s.chg, s.L ++ [(s.beh + 1, n)]⟩ else s
def takeO (s : Ars) (n : Int) : Int := if wr s n 1 = 0 then s.beh + 1 else 0
def giveS (s : Ars) (k : Int) : Ars := ⟨s.bud, s.beh, s.chg, rem k s.L⟩
def chargeS (s : Ars) (n : Int) : Ars := if wr s n 0 = 0 then ⟨s.bud, s.beh, s.chg + n, s.L⟩ else s
def backO (s : Ars) (n : Int) : Bool := !(decide (n < 0) || decide (s.chg < n))
def backS (s : Ars) (n : Int) : Ars := if backO s n = true then ⟨s.bud, s.beh, s.chg - n, s.L⟩ else s
set_option maxRecDepth 100000 in
theorem wr_cases (s : Ars) (n least : Int) : (wr s n least = 2 ∧ (n < least ∨ 16777216 < n)) ∨
    (wr s n least = 7 ∧ (least ≤ n ∧ n ≤ 16777216) ∧ 0 < s.bud ∧ s.bud < sumn s.L + s.chg + n) ∨
    (wr s n least = 0 ∧ (least ≤ n ∧ n ≤ 16777216) ∧ (s.bud ≤ 0 ∨ (0 < s.bud ∧ sumn s.L + s.chg + n ≤ s.bud))) := by
  unfold wr
  by_cases h1 : n < least ∨ 16777216 < n
  · rw [if_pos h1]; exact .inl ⟨rfl, h1⟩
  · rw [if_neg h1]
    by_cases h2 : 0 < s.bud ∧ s.bud < sumn s.L + s.chg + n
    · rw [if_pos h2]; exact .inr (.inl ⟨rfl, by omega, h2⟩)
    · rw [if_neg h2]; exact .inr (.inr ⟨rfl, by omega, by omega⟩)
set_option maxRecDepth 100000 in
theorem Ok.fresh {T : Int} {s : Ars} (h : Ok T s) : ∀ q ∈ s.L, q.1 ≠ s.beh + 1 := fun q hq => by have := (h.el q hq).1; omega
set_option maxRecDepth 100000 in
theorem Ok.take {T : Int} {s : Ars} (h : Ok T s) (n : Int) : Ok (T + 1) (takeS s n) := by
  unfold takeS
  split
  · next hw =>
    have hn : 1 ≤ n ∧ n ≤ 16777216 := by
      rcases wr_cases s n 1 with ⟨e, _⟩ | ⟨e, _⟩ | ⟨_, e, _⟩
      · omega
      · omega
      · exact e
    have h1 := h.len
    have h2 := h.beh
    have h3 := h.chg
    refine ⟨by simp; omega, h.bud, by simp only; omega, by simp only; omega, fun p hp => ?_, ?_⟩
    · simp only [List.mem_append, List.mem_singleton] at hp ⊢
      rcases hp with hp | rfl
      · have := h.el p hp
        omega
      · simp only
        omega
    · simp only
      exact List.pairwise_append.2 ⟨h.dis, List.pairwise_singleton _ _, fun a ha b hb => by
        simp only [List.mem_singleton] at hb
        subst hb
        exact h.fresh a ha⟩
  · exact h.mono (by omega)
set_option maxRecDepth 100000 in
theorem Ok.give {T : Int} {s : Ars} (h : Ok T s) (k : Int) : Ok T (giveS s k) := by
  have hl : (rem k s.L).length ≤ s.L.length := by
    cases e : fnd k s.L with
    | none => rw [rem_none e]; exact Nat.le_refl _
    | some n => have := (rem_sum e).2; omega
  have := h.len
  exact ⟨by simp only [giveS]; omega, h.bud, h.beh, h.chg, fun p hp => h.el p (rem_sub p hp), rem_dis h.dis⟩
set_option maxRecDepth 100000 in
theorem Ok.charge {T : Int} {s : Ars} (h : Ok T s) (n : Int) : Ok (T + 1) (chargeS s n) := by
  unfold chargeS
  split
  · next hw =>
    have hn : 0 ≤ n ∧ n ≤ 16777216 := by
      rcases wr_cases s n 0 with ⟨e, _⟩ | ⟨e, _⟩ | ⟨_, e, _⟩
      · omega
      · omega
      · exact e
    have h1 := h.len
    have h2 := h.beh
    have h3 := h.chg
    exact ⟨by simp only; omega, h.bud, by simp only; omega, by simp only; omega, h.el, h.dis⟩
  · exact h.mono (by omega)
set_option maxRecDepth 100000 in
theorem backO_iff (s : Ars) (n : Int) : (backO s n = true ∧ 0 ≤ n ∧ n ≤ s.chg) ∨ (backO s n = false ∧ (n < 0 ∨ (0 ≤ n ∧ s.chg < n))) := by
  unfold backO
  by_cases h1 : n < 0
  · right; simp [h1]
  · by_cases h2 : s.chg < n
    · right; simp [h2]; omega
    · left; simp [h1, h2]; omega
set_option maxRecDepth 100000 in
theorem Ok.back {T : Int} {s : Ars} (h : Ok T s) (n : Int) : Ok T (backS s n) := by
  unfold backS
  rcases backO_iff s n with ⟨e, h1⟩ | ⟨e, _⟩
  · rw [if_pos e]
    have h3 := h.chg
    exact ⟨h.len, h.bud, h.beh, by simp only; omega, h.el, h.dis⟩
  · rw [e]
    exact h

/-- A map that holds just these regions. -/
structure MpL (D : DataW Unit) (L : List (Int × Int)) : Prop where
  tidy : Maps.Tidy D
  has : ∀ k : Int, Maps.has D (.int .i64 k) = (fnd k L).isSome
  at_ : ∀ k : Int, D.atKey (.int .i64 k) (.lit (.int .i64 0)) = .lit (.int .i64 ((fnd k L).getD 0))
  size : Maps.size D = L.length
set_option maxRecDepth 100000 in
theorem MpL.new : MpL (.map []) [] := ⟨Maps.tidy_empty, fun _ => rfl, fun _ => rfl, rfl⟩
set_option maxRecDepth 100000 in
theorem lit_ne {j k : Int} (h : j ≠ k) : (Lit.int .i64 j) ≠ .int .i64 k := fun e => h (by injection e)
set_option maxRecDepth 100000 in
theorem MpL.put {D : DataW Unit} {L : List (Int × Int)} (h : MpL D L) (k n : Int) (hf : ∀ q ∈ L, q.1 ≠ k) : MpL (D.put (.int .i64 k) (.lit (.int .i64 n))) (L ++ [(k, n)]) := by
  have hk : WideAt.IsKeyLit (.int .i64 k) := trivial
  refine ⟨h.tidy.put hk _, fun j => ?_, fun j => ?_, ?_⟩
  · rw [fnd_snoc L (k, n) j hf]
    by_cases e : j = k
    · subst e
      rw [if_pos rfl, Maps.has_put_same h.tidy.isMap hk]
      rfl
    · rw [if_neg e, Maps.has_put_other (lit_ne e), h.has]
  · rw [fnd_snoc L (k, n) j hf]
    by_cases e : j = k
    · subst e
      rw [if_pos rfl, Maps.atKey_put_same h.tidy.isMap hk]
      rfl
    · rw [if_neg e, Maps.atKey_put_other (lit_ne e), h.at_]
  · rw [Maps.size_put h.tidy, h.has, fnd_none.2 hf, h.size]
    simp
set_option maxRecDepth 100000 in
theorem MpL.del {D : DataW Unit} {L : List (Int × Int)} (h : MpL D L) (hd : L.Pairwise (fun p q => p.1 ≠ q.1)) (k : Int) : MpL (D.del (.int .i64 k)) (rem k L) := by
  refine ⟨h.tidy.del _, fun j => ?_, fun j => ?_, ?_⟩
  · rw [fnd_rem hd k j]
    by_cases e : j = k
    · subst e
      rw [if_pos rfl, Maps.has_del_same]
      rfl
    · rw [if_neg e, Maps.has_del_other (lit_ne e), h.has]
  · rw [fnd_rem hd k j]
    by_cases e : j = k
    · subst e
      rw [if_pos rfl, Maps.atKey_del_same]
      rfl
    · rw [if_neg e, Maps.atKey_del_other (lit_ne e), h.at_]
  · have h1 := Maps.size_del (k := .int .i64 k) h.tidy
    rw [h.has, h.size] at h1
    cases e : fnd k L with
    | none =>
      rw [e] at h1
      rw [rem_none e]
      simpa using h1
    | some n =>
      rw [e] at h1
      have := (rem_sum e).2
      simp at h1
      omega
end An
end Go.Proofs.Ytmgikdkcdihdlaa
