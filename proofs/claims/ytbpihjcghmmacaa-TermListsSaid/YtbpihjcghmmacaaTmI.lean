/-
  TERMS WITH THE FIELDS OF THEIR KIND ALONE: which may be, but for their weight. Plain mathematics, and term.mentioned.
-/
import Derived.Test.YtbpihjcghmmacaaTmH
namespace Go.Proofs.Ytbpihjcghmmacaa
open Go.RowKit

/-- The record with the fields of its kind alone. -/
def TR.ment (r : TR) : TR :=
  if r.k = 1 ∨ r.k = 4 ∨ r.k = 5 then ⟨r.k, r.n, false, none, 0, 0, 0, ⟨#[]⟩, none, 0, 0⟩
  else if r.k = 2 then ⟨r.k, 0, r.g, r.A, r.ln, r.lc, 0, ⟨#[]⟩, none, 0, 0⟩
  else if r.k = 3 then ⟨r.k, 0, false, none, 0, 0, r.u, ⟨#[]⟩, none, 0, 0⟩
  else if r.k = 6 ∨ r.k = 8 then ⟨r.k, 0, false, none, 0, 0, 0, ⟨#[]⟩, r.B, r.m, r.d⟩
  else if r.k = 7 then ⟨r.k, 0, false, none, 0, 0, 0, ⟨#[]⟩, none, 0, 0⟩
  else if r.k = 9 then ⟨r.k, 0, false, none, 0, 0, 0, r.s, none, 0, 0⟩
  else ⟨0, 0, false, none, 0, 0, 0, ⟨#[]⟩, none, 0, 0⟩
/-- The term with the fields of its kind alone. -/
def Tm.ment : Tm → Tm
  | .mk k n g l u s ks =>
    if k = 1 ∨ k = 4 ∨ k = 5 then .mk k n false [] 0 ⟨#[]⟩ []
    else if k = 2 then .mk k 0 g l 0 ⟨#[]⟩ []
    else if k = 3 then .mk k 0 false [] u ⟨#[]⟩ []
    else if k = 6 ∨ k = 8 then .mk k 0 false [] 0 ⟨#[]⟩ ks
    else if k = 7 then .mk k 0 false [] 0 ⟨#[]⟩ []
    else if k = 9 then .mk k 0 false [] 0 s []
    else .mk 0 0 false [] 0 ⟨#[]⟩ []
theorem TV.mk' {w : World} {k n : Int} {g : Bool} {A : Option Addr} {ln lc : Nat} {u : Int} {s : ByteArray} {B : Option Addr} {m d : Nat} {l : List Nat} {ks : List Tm}
    (k0 : -9223372036854775808 ≤ k) (k1 : k ≤ 9223372036854775807) (n0 : -9223372036854775808 ≤ n) (n1 : n ≤ 9223372036854775807) (u0 : 0 ≤ u) (u1 : u ≤ 18446744073709551615)
    (lim : Lim w A ln lc l) (cap : lc ≤ maxLen) (str : s.size ≤ maxLen) (h : TVs w B m d ks) : TV w ⟨k, n, g, A, ln, lc, u, s, B, m, d⟩ (.mk k n g l u s ks) :=
  TV.make (r := ⟨k, n, g, A, ln, lc, u, s, B, m, d⟩) ⟨k0, k1, n0, n1, u0, u1, lim, cap, str, h.md, h.dd⟩ h
theorem TV.ment {w : World} {r : TR} {t : Tm} (h : TV w r t) : TV w r.ment t.ment := by
  cases h with
  | mk _ l ks V hf hm hs hk =>
    have hts : TVs w r.B r.m r.d ks := ⟨hm, hf.md, hf.dd, V, hs, hk⟩
    have z : (0 : Nat) ≤ maxLen := Nat.zero_le _
    have N := TVs.nil w none 0 z
    have L := Lim.nil w none 0
    have E : (⟨#[]⟩ : ByteArray).size ≤ maxLen := z
    have i0 : (-9223372036854775808 : Int) ≤ 0 := by omega
    have i1 : (0 : Int) ≤ 9223372036854775807 := by omega
    have u0 : (0 : Int) ≤ 0 := by omega
    have u1 : (0 : Int) ≤ 18446744073709551615 := by omega
    simp only [TR.ment, Tm.ment]
    by_cases h0 : r.k = 1 ∨ r.k = 4 ∨ r.k = 5
    · rw [if_pos h0, if_pos h0]
      exact TV.mk' hf.k0 hf.k1 hf.n0 hf.n1 u0 u1 L z E N
    rw [if_neg h0, if_neg h0]
    by_cases h1 : r.k = 2
    · rw [if_pos h1, if_pos h1]
      exact TV.mk' hf.k0 hf.k1 i0 i1 u0 u1 hf.lim hf.cap E N
    rw [if_neg h1, if_neg h1]
    by_cases h2 : r.k = 3
    · rw [if_pos h2, if_pos h2]
      exact TV.mk' hf.k0 hf.k1 i0 i1 hf.u0 hf.u1 L z E N
    rw [if_neg h2, if_neg h2]
    by_cases h3 : r.k = 6 ∨ r.k = 8
    · rw [if_pos h3, if_pos h3]
      exact TV.mk' hf.k0 hf.k1 i0 i1 u0 u1 L z E hts
    rw [if_neg h3, if_neg h3]
    by_cases h4 : r.k = 7
    · rw [if_pos h4, if_pos h4]
      exact TV.mk' hf.k0 hf.k1 i0 i1 u0 u1 L z E N
    rw [if_neg h4, if_neg h4]
    by_cases h5 : r.k = 9
    · rw [if_pos h5, if_pos h5]
      exact TV.mk' hf.k0 hf.k1 i0 i1 u0 u1 L z hf.str N
    rw [if_neg h5, if_neg h5]
    exact TV.mk' i0 i1 i0 i1 u0 u1 L z E N

/-- A record that is all noughts. -/
@[reducible] def zeroR : TR := ⟨0, 0, false, none, 0, 0, 0, ⟨#[]⟩, none, 0, 0⟩

set_option maxHeartbeats 4000000 in
theorem ment_any (w : World) (r : TR) :
    Calls Try.prog 56 #[.agg #[.int .i64 r.k, .int .i64 r.n, .bool r.g, .slice r.A r.ln r.lc, .int .u64 r.u, .string r.s, .slice r.B r.m r.d]] w fun e w' => e = .returned (.agg #[.int .i64 r.ment.k, .int .i64 r.ment.n, .bool r.ment.g, .slice r.ment.A r.ment.ln r.ment.lc, .int .u64 r.ment.u, .string r.ment.s, .slice r.ment.B r.ment.m r.ment.d]) ∧ Below w.heap.size w w' := by
  obtain ⟨V, hV⟩ : ∃ V, V = Ending.returned (.agg #[.int .i64 r.ment.k, .int .i64 r.ment.n, .bool r.ment.g, .slice r.ment.A r.ment.ln r.ment.lc, .int .u64 r.ment.u, .string r.ment.s, .slice r.ment.B r.ment.m r.ment.d]) := ⟨_, rfl⟩
  rw [← hV]
  have HV := Lib.hid hV
  clear hV
  go_enter Try.func56, Try.ntmps56
  go_wp2
  all_goals
    refine bodyPost_ret (v := .agg #[.int .i64 r.ment.k, .int .i64 r.ment.n, .bool r.ment.g, .slice r.ment.A r.ment.ln r.ment.lc, .int .u64 r.ment.u, .string r.ment.s, .slice r.ment.B r.ment.m r.ment.d]) ?_ rfl ⟨HV.out.symm, ((Below.refl _ _).alloc (Nat.le_refl _) _).alloc (by simp) _⟩
    simp_all [results, Try.results56, go_sem, TR.ment]
end Go.Proofs.Ytbpihjcghmmacaa
