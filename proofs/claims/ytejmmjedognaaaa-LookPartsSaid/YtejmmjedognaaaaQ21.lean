/-
  THE REFERENCE's LOOK: bytes of a HeadRefc; bytes as a whole.
  THE REFERENCE's LOOK: bytes as a whole.
  THE REFERENCE's LOOK: sub.
-/
import Derived.Test.YtejmmjedognaaaaQ20
namespace Go.Proofs.Ytejmmjedognaaaa
open Go.RowKit
open St

section
variable {w : World} {r : DR} {SA : Option Addr} {sm sc : Nat} {S : List Slt} {dp : Bool} {A : Option Addr} {n c : Nat} {ws : List Int}
end
end Go.Proofs.Ytejmmjedognaaaa

namespace Go.Proofs.Ytejmmjedognaaaa
open Go.RowKit
open St

section
variable {w : World} {r : DR} {SA : Option Addr} {sm sc : Nat} {S : List Slt} {dp : Bool} {A : Option Addr} {n c : Nat} {ws : List Int}
end

set_option maxRecDepth 100000 in
theorem str_size (l : List Nat) : (Wr.str l).size = l.length := by simp [Wr.str, ByteArray.size]
set_option maxRecDepth 100000 in
/-- What bytes tells is as long as it says. -/
theorem byR_ok {S : List Slt} {dp : Bool} {kd : Int} {ws : List Int} (h : (byR S dp kd ws).2.2 = true) : (0 ≤ (byR S dp kd ws).2.1 ∧ (byR S dp kd ws).2.1 ≤ 400) ∧ (¬ (dp = false ∧ kd = 4) → (((byR S dp kd ws).1.size : Nat) : Int) = (byR S dp kd ws).2.1) := by
  unfold byR at h ⊢
  split at h
  · next h3 =>
    rw [if_pos h3]
    unfold byH at h ⊢
    split at h
    · cases h
    · next h4 =>
      rw [if_neg h4]
      cases hp : pkO (ws.drop 1) (smlZ (ws.getD 0 0) 64).toNat with
      | none => rw [hp] at h; cases h
      | some l =>
        simp only
        have hs := sml_cases (ws.getD 0 0) 64
        refine ⟨by omega, fun _ => ?_⟩
        rw [str_size]
        unfold pkO at hp
        split at hp
        · next h5 =>
          injection hp with hp
          rw [← hp, List.length_take, byts_len]
          have := h5.1
          omega
        · cases hp
  · next h3 =>
    rw [if_neg h3]
    split at h
    · next h4 =>
      rw [if_pos h4]
      unfold byC at h ⊢
      have hs := sml_cases (ws.getD 2 0) 400
      split at h
      · cases h
      · next h5 =>
        rw [if_neg h5]
        split at h
        · next h6 =>
          rw [if_pos h6]
          exact ⟨by simp only; omega, fun hh => absurd ⟨h6, h4.1⟩ hh⟩
        · next h6 =>
          rw [if_neg h6]
          split at h
          · cases h
          · next h7 =>
            rw [if_neg h7]
            refine ⟨by simp only; omega, fun _ => ?_⟩
            simp only
            omega
    · cases h
end Go.Proofs.Ytejmmjedognaaaa

namespace Go.Proofs.Ytejmmjedognaaaa
open Go.RowKit
open St

/-- A HeadSub's. -/
def sbZ (S : List Slt) (dp : Bool) (f m : Int) : Option (Int × List Int) → ByteArray × Bool
  | none => (⟨#[]⟩, false)
  | some (kd, base) =>
    if f < 0 ∨ m < 0 then (⟨#[]⟩, false)
    else if (byR S dp kd base).2.2 = false ∨ (byR S dp kd base).2.1 - f < m then (⟨#[]⟩, false)
    else if dp = false ∧ kd = 4 then (⟨#[]⟩, true)
    else ((byR S dp kd base).1.extract f.toNat (f.toNat + m.toNat), true)
def subR (gs : List Frg) (S : List Slt) (dp : Bool) (ws : List Int) : ByteArray × Bool :=
  if ws.length ≠ 3 then (⟨#[]⟩, false) else sbZ S dp (smlZ (ws.getD 1 0) 400) (smlZ (ws.getD 2 0) 400) (boxO gs (ws.getD 0 0))
def SuP (w : World) (x : ByteArray × Bool) (e : Ending) (w' : World) : Prop := e = .returned (.tuple #[.string x.1, .bool x.2]) ∧ Below w.heap.size w w'

set_option maxRecDepth 100000 in
theorem atL_len {gs : List Frg} {a : Int} {M : Nat} (h : ∀ f ∈ gs, f.ws.length ≤ M) : (atL gs a).length ≤ M := by
  induction gs with
  | nil => exact Nat.zero_le _
  | cons f gs ih =>
    unfold atL
    split
    · rw [List.length_drop]
      have := h f (by simp)
      omega
    · exact ih (fun g hg => h g (by simp [hg]))
set_option maxRecDepth 100000 in
theorem boxO_len {gs : List Frg} {x : Int} {M : Nat} (h : ∀ f ∈ gs, f.ws.length ≤ M) {kd : Int} {ws : List Int} (hb : boxO gs x = some (kd, ws)) : ws.length ≤ M := by
  have h1 := atL_len (a := ldZ x) h
  unfold boxO at hb
  cases hz : atL gs (ldZ x) with
  | nil => rw [hz] at hb; cases hb
  | cons a t =>
    rw [hz] at hb h1
    have e : boxZ x (a :: t) = if x % 8 = 4 ∧ ptB a = true ∧ a / 64 ≤ (t.length : Int) then some (a / 8 % 8, t.take (a / 64).toNat) else none := rfl
    rw [e] at hb
    by_cases hc : x % 8 = 4 ∧ ptB a = true ∧ a / 64 ≤ (t.length : Int)
    · rw [if_pos hc] at hb
      injection hb with hb
      injection hb with _ hb
      rw [← hb, List.length_take]
      simp at h1
      omega
    · rw [if_neg hc] at hb
      cases hb

section
variable {w : World} {r : DR} {d : Dmp} {SA : Option Addr} {sm sc : Nat} {S : List Slt} {dp : Bool} {A : Option Addr} {n c : Nat} {ws : List Int}
end
end Go.Proofs.Ytejmmjedognaaaa
