/-
  TERMS THAT ARE MADE; WHAT EVERY PROGRAM ANSWERS THAT IS ONE: awake of beehivelaw3.
-/
import Derived.Test.YtbpihjcghmmacaaTmF
namespace Go.Proofs.Ytbpihjcghmmacaa
open Go.RowKit

/-- A term's record that is made with no limbs. -/
@[reducible] def mkR (k n u : Int) (s : ByteArray) (B : Option Addr) (m d : Nat) : TR := ⟨k, n, false, none, 0, 0, u, s, B, m, d⟩
theorem TV.node {w : World} {k n u : Int} {s : ByteArray} {B : Option Addr} {m d : Nat} {ks : List Tm} (h : TVs w B m d ks)
    (k0 : -9223372036854775808 ≤ k) (k1 : k ≤ 9223372036854775807) (n0 : -9223372036854775808 ≤ n) (n1 : n ≤ 9223372036854775807) (u0 : 0 ≤ u) (u1 : u ≤ 18446744073709551615) (hs : s.size ≤ maxLen) :
    TV w (mkR k n u s B m d) (.mk k n false [] u s ks) :=
  TV.make (r := mkR k n u s B m d) ⟨k0, k1, n0, n1, u0, u1, Lim.nil w none 0, Nat.zero_le _, hs, h.md, h.dd⟩ h
theorem TV.leaf {w : World} {k n u : Int} {s : ByteArray}
    (k0 : -9223372036854775808 ≤ k) (k1 : k ≤ 9223372036854775807) (n0 : -9223372036854775808 ≤ n) (n1 : n ≤ 9223372036854775807) (u0 : 0 ≤ u) (u1 : u ≤ 18446744073709551615) (hs : s.size ≤ maxLen) :
    TV w (mkR k n u s none 0 0) (.mk k n false [] u s []) := TV.node (TVs.nil w none 0 (Nat.zero_le _)) k0 k1 n0 n1 u0 u1 hs
theorem maxLen_ge : 1000000 ≤ maxLen := by decide

/-- A row of two terms, newly made. -/
theorem TVs.two {w : World} {r r' : TR} {t t' : Tm} (h : TV w r t) (h' : TV w r' t') :
    TVs (w.alloc (.cells #[.int .i64 r.k, .int .i64 r.n, .bool r.g, .slice r.A r.ln r.lc, .int .u64 r.u, .string r.s, .slice r.B r.m r.d, .int .i64 r'.k, .int .i64 r'.n, .bool r'.g, .slice r'.A r'.ln r'.lc, .int .u64 r'.u, .string r'.s, .slice r'.B r'.m r'.d] 28)) (some ⟨w.heap.size, 0, none⟩) 2 2 [t, t'] := by
  refine ⟨rfl, Nat.le_refl _, by decide, fun i => if i = 0 then r else r', fun _ => ⟨w.heap.size, 0, rfl, by simp, fun i hi => ?_⟩, fun i x e => ?_⟩
  · have : i = 0 ∨ i = 1 := by omega
    rcases this with rfl | rfl
    all_goals
      refine At7.of fun j hj => ?_
      rw [add_none, World.cell?_alloc_at _ _ _ _ rfl]
      have : j = 0 ∨ j = 1 ∨ j = 2 ∨ j = 3 ∨ j = 4 ∨ j = 5 ∨ j = 6 := by omega
      rcases this with rfl | rfl | rfl | rfl | rfl | rfl | rfl <;> rfl
  · have hb := (Below.refl w.heap.size w).alloc (Nat.le_refl _) (.cells #[.int .i64 r.k, .int .i64 r.n, .bool r.g, .slice r.A r.ln r.lc, .int .u64 r.u, .string r.s, .slice r.B r.m r.d, .int .i64 r'.k, .int .i64 r'.n, .bool r'.g, .slice r'.A r'.ln r'.lc, .int .u64 r'.u, .string r'.s, .slice r'.B r'.m r'.d] 28)
    match i, e with
    | 0, e =>
      simp at e
      rw [← e]
      exact h.bel hb
    | 1, e =>
      simp at e
      rw [← e]
      exact h'.bel hb
    | i + 2, e => simp at e

/-- The small integer 0, the empty list, and [0, 0]. -/
def tInt0 : Tm := .mk 1 0 false [] 0 ⟨#[]⟩ []
def tNil : Tm := .mk 7 0 false [] 0 ⟨#[]⟩ []
def tTwo : Tm := .mk 8 0 false [] 0 ⟨#[]⟩ [tInt0, .mk 8 0 false [] 0 ⟨#[]⟩ [tInt0, tNil]]
def tEight : Tm := .mk 9 0 false [] 0 ⟨#[49, 50, 51, 52, 53, 54, 55, 56]⟩ []
theorem tTwo_cap : tTwo.cap = 5 := by simp [Tm.cap, tTwo, tInt0, tNil, Tm.wt, Tm.wts]
theorem tTwo_ok : tTwo.Ok := by simp [tTwo, tInt0, tNil, Tm.Ok, Tm.Oks, ByteArray.size]
theorem tEight_cap : tEight.cap = 2 := by simp [Tm.cap, tEight, Tm.wt, ByteArray.size]
theorem tEight_ok : tEight.Ok := by simp [tEight, Tm.Ok, Tm.Oks, ByteArray.size]
theorem above_one (most : Int) (t : Tm) : aboveB most [t] = decide (most < (t.cap : Int)) := by
  simp only [aboveB, Tm.caps, Nat.add_zero]
  rfl

end Go.Proofs.Ytbpihjcghmmacaa
