/-
  TERMS THAT ARE MADE; WHAT EVERY PROGRAM ANSWERS THAT IS ONE: awake of beehivelaw3.
-/
import Derived.Test.YtimcphdlahaboaaTmF
namespace Go.Proofs.Ytimcphdlahaboaa
open Go.RowKit

/-- A term's record that is made with no limbs. -/
@[reducible] def mkR (k n u : Int) (s : ByteArray) (B : Option Addr) (m d : Nat) : TR := ⟨k, n, false, none, 0, 0, u, s, B, m, d⟩
theorem TV.node {w : World} {k n u : Int} {s : ByteArray} {B : Option Addr} {m d : Nat} {ks : List Tm} (h : TVs w B m d ks)
    (k0 : -9223372036854775808 ≤ k) (k1 : k ≤ 9223372036854775807) (n0 : -9223372036854775808 ≤ n) (n1 : n ≤ 9223372036854775807) (u0 : 0 ≤ u) (u1 : u ≤ 18446744073709551615) (hs : s.size ≤ maxLen) :
    TV w (mkR k n u s B m d) (.mk k n false [] u s ks) :=
  TV.make (r := mkR k n u s B m d) ⟨k0, k1, n0, n1, u0, u1, Lim.nil w none 0, Nat.zero_le _, hs, h.md, h.dd⟩ h
theorem TV.leaf {w : World} {k n u : Int} {s : ByteArray}
    (k0 : -9223372036854775808 ≤ k) (k1 : k ≤ 9223372036854775807) (n0 : -9223372036854775808 ≤ n) (n1 : n ≤ 9223372036854775807) (u0 : 0 ≤ u) (u1 : u ≤ 18446744073709551615) (hs : s.size ≤ maxLen) :
    TV w (mkR k n u s none 0 0) (.mk k n false [] u s []) := TV.node (TVs.nil w none 0 (Nat.zero_le _)) k0 k1 n0 n1 u0 u1 hs
theorem maxLen_ge : 1000000 ≤ maxLen := by decide

/-- A row of two terms, newly made. -/
theorem TVs.two {w : World} {r r' : TR} {t t' : Tm} (h : TV w r t) (h' : TV w r' t') :
    TVs (w.alloc (.cells #[.int .i64 r.k, .int .i64 r.n, .bool r.g, .slice r.A r.ln r.lc, .int .u64 r.u, .string r.s, .slice r.B r.m r.d, .int .i64 r'.k, .int .i64 r'.n, .bool r'.g, .slice r'.A r'.ln r'.lc, .int .u64 r'.u, .string r'.s, .slice r'.B r'.m r'.d] 28)) (some ⟨w.heap.size, 0, none⟩) 2 2 [t, t'] := by
  refine ⟨rfl, Nat.le_refl _, by decide, fun i => if i = 0 then r else r', fun _ => ⟨w.heap.size, 0, rfl, by simp, fun i hi => ?_⟩, fun i x e => ?_⟩
  · have : i = 0 ∨ i = 1 := by omega
    rcases this with rfl | rfl
    all_goals
      refine At7.of fun j hj => ?_
      rw [add_none, World.cell?_alloc_at _ _ _ _ rfl]
      have : j = 0 ∨ j = 1 ∨ j = 2 ∨ j = 3 ∨ j = 4 ∨ j = 5 ∨ j = 6 := by omega
      rcases this with rfl | rfl | rfl | rfl | rfl | rfl | rfl <;> rfl
  · have hb := (Below.refl w.heap.size w).alloc (Nat.le_refl _) (.cells #[.int .i64 r.k, .int .i64 r.n, .bool r.g, .slice r.A r.ln r.lc, .int .u64 r.u, .string r.s, .slice r.B r.m r.d, .int .i64 r'.k, .int .i64 r'.n, .bool r'.g, .slice r'.A r'.ln r'.lc, .int .u64 r'.u, .string r'.s, .slice r'.B r'.m r'.d] 28)
    match i, e with
    | 0, e =>
      simp at e
      rw [← e]
      exact h.bel hb
    | 1, e =>
      simp at e
      rw [← e]
      exact h'.bel hb
    | i + 2, e => simp at e

/-- The small integer 0, the empty list, and [0, 0]. -/
def tInt0 : Tm := .mk 1 0 false [] 0 ⟨#[]⟩ []
def tNil : Tm := .mk 7 0 false [] 0 ⟨#[]⟩ []
def tTwo : Tm := .mk 8 0 false [] 0 ⟨#[]⟩ [tInt0, .mk 8 0 false [] 0 ⟨#[]⟩ [tInt0, tNil]]
def tEight : Tm := .mk 9 0 false [] 0 ⟨#[49, 50, 51, 52, 53, 54, 55, 56]⟩ []
theorem tTwo_cap : tTwo.cap = 5 := by simp [Tm.cap, tTwo, tInt0, tNil, Tm.wt, Tm.wts]
theorem tTwo_ok : tTwo.Ok := by simp [tTwo, tInt0, tNil, Tm.Ok, Tm.Oks, ByteArray.size]
theorem tEight_cap : tEight.cap = 2 := by simp [Tm.cap, tEight, Tm.wt, ByteArray.size]
theorem tEight_ok : tEight.Ok := by simp [tEight, Tm.Ok, Tm.Oks, ByteArray.size]
theorem above_one (most : Int) (t : Tm) : aboveB most [t] = decide (most < (t.cap : Int)) := by
  simp only [aboveB, Tm.caps, Nat.add_zero]
  rfl

set_option maxRecDepth 100000 in
set_option maxHeartbeats 4000000 in
theorem awake_tm (w : World) : Calls Try.prog 8 #[] w fun e w' => e = .returned (.bool true) ∧ Below w.heap.size w w' := by
  have a1 : TV w (mkR 1 0 0 ⟨#[]⟩ none 0 0) tInt0 := TV.leaf (by omega) (by omega) (by omega) (by omega) (by omega) (by omega) (by decide)
  have a2 : TV w (mkR 7 0 0 ⟨#[]⟩ none 0 0) tNil := TV.leaf (by omega) (by omega) (by omega) (by omega) (by omega) (by omega) (by decide)
  have a3 := TVs.two a1 a2
  have a4 := TV.node (k := 8) (n := 0) (u := 0) (s := ⟨#[]⟩) a3 (by omega) (by omega) (by omega) (by omega) (by omega) (by omega) (by decide)
  have b1 := (Below.refl w.heap.size w).alloc (Nat.le_refl _) (.cells #[.int .i64 1, .int .i64 0, .bool false, .slice none 0 0, .int .u64 0, .string ⟨#[]⟩, .slice none 0 0, .int .i64 7, .int .i64 0, .bool false, .slice none 0 0, .int .u64 0, .string ⟨#[]⟩, .slice none 0 0] 28)
  have a5 := TVs.two (a1.bel b1) a4
  have b2 := b1.alloc (by simp) (.cells #[.int .i64 1, .int .i64 0, .bool false, .slice none 0 0, .int .u64 0, .string ⟨#[]⟩, .slice none 0 0, .int .i64 8, .int .i64 0, .bool false, .slice none 0 0, .int .u64 0, .string ⟨#[]⟩, .slice (some ⟨w.heap.size, 0, none⟩) 2 2] 28)
  rw [World.size_alloc] at a5
  have a6 := TV.node (k := 8) (n := 0) (u := 0) (s := ⟨#[]⟩) a5 (by omega) (by omega) (by omega) (by omega) (by omega) (by omega) (by decide)
  have b3 := b2.alloc (by simp; omega) (.cells #[.int .i64 8, .int .i64 0, .bool false, .slice none 0 0, .int .u64 0, .string ⟨#[]⟩, .slice (some ⟨w.heap.size + 1, 0, none⟩) 2 2] 28)
  have bx := Box7.new ((w.alloc (.cells #[.int .i64 1, .int .i64 0, .bool false, .slice none 0 0, .int .u64 0, .string ⟨#[]⟩, .slice none 0 0, .int .i64 7, .int .i64 0, .bool false, .slice none 0 0, .int .u64 0, .string ⟨#[]⟩, .slice none 0 0] 28)).alloc (.cells #[.int .i64 1, .int .i64 0, .bool false, .slice none 0 0, .int .u64 0, .string ⟨#[]⟩, .slice none 0 0, .int .i64 8, .int .i64 0, .bool false, .slice none 0 0, .int .u64 0, .string ⟨#[]⟩, .slice (some ⟨w.heap.size, 0, none⟩) 2 2] 28)) (mkR 8 0 0 ⟨#[]⟩ (some ⟨w.heap.size + 1, 0, none⟩) 2 2)
  simp only [World.size_alloc] at bx
  have a7 := a6.bel (w' := ((w.alloc (.cells #[.int .i64 1, .int .i64 0, .bool false, .slice none 0 0, .int .u64 0, .string ⟨#[]⟩, .slice none 0 0, .int .i64 7, .int .i64 0, .bool false, .slice none 0 0, .int .u64 0, .string ⟨#[]⟩, .slice none 0 0] 28)).alloc (.cells #[.int .i64 1, .int .i64 0, .bool false, .slice none 0 0, .int .u64 0, .string ⟨#[]⟩, .slice none 0 0, .int .i64 8, .int .i64 0, .bool false, .slice none 0 0, .int .u64 0, .string ⟨#[]⟩, .slice (some ⟨w.heap.size, 0, none⟩) 2 2] 28)).alloc (.cells #[.int .i64 8, .int .i64 0, .bool false, .slice none 0 0, .int .u64 0, .string ⟨#[]⟩, .slice (some ⟨w.heap.size + 1, 0, none⟩) 2 2] 28)) ((Below.refl _ _).alloc (Nat.le_refl _) _)
  clear a1 a2 a3 a4 a5 a6 b1 b2
  go_enter Try.func8, Try.ntmps8
  go_wp2_with fail
  generalize ((w.alloc (.cells #[.int .i64 1, .int .i64 0, .bool false, .slice none 0 0, .int .u64 0, .string ⟨#[]⟩, .slice none 0 0, .int .i64 7, .int .i64 0, .bool false, .slice none 0 0, .int .u64 0, .string ⟨#[]⟩, .slice none 0 0] 28)).alloc (.cells #[.int .i64 1, .int .i64 0, .bool false, .slice none 0 0, .int .u64 0, .string ⟨#[]⟩, .slice none 0 0, .int .i64 8, .int .i64 0, .bool false, .slice none 0 0, .int .u64 0, .string ⟨#[]⟩, .slice (some ⟨w.heap.size, 0, none⟩) 2 2] 28)).alloc (.cells #[.int .i64 8, .int .i64 0, .bool false, .slice none 0 0, .int .u64 0, .string ⟨#[]⟩, .slice (some ⟨w.heap.size + 1, 0, none⟩) 2 2] 28) = W at *
  have a8 : TV W (mkR 8 0 0 ⟨#[]⟩ (some ⟨w.heap.size + 1, 0, none⟩) 2 2) tTwo := a7
  clear a7
  generalize (some ⟨w.heap.size + 1, 0, none⟩ : Option Addr) = B at *
  generalize w.heap.size + 1 + 1 = g at *
  refine (weight_any W (mkR 8 0 0 ⟨#[]⟩ B 2 2) tTwo a8 tTwo_ok).mono ?_
  rw [tTwo_cap]
  rintro e w1 ⟨rfl, hb1⟩
  have bx1 := bx.below hb1
  have tv1 := a8.bel hb1
  have a1 : TV w1 (mkR 9 0 0 ⟨#[49, 50, 51, 52, 53, 54, 55, 56]⟩ none 0 0) tEight := TV.leaf (by omega) (by omega) (by omega) (by omega) (by omega) (by omega) (by decide)
  go_wp2_with fail
  refine (weight_any w1 _ tEight a1 tEight_ok).mono ?_
  rw [tEight_cap]
  rintro e w2 ⟨rfl, hb2⟩
  have bx2 := bx1.below hb2
  have tv2 := tv1.bel hb2
  have c0 := bx2.at.c0
  have c1 := bx2.at.c1
  have c2 := bx2.at.c2
  have c3 := bx2.at.c3
  have c4 := bx2.at.c4
  have c5 := bx2.at.c5
  have c6 := bx2.at.c6
  have ts2 := TVs.one tv2
  have hb2' := (Below.refl w2.heap.size w2).alloc (Nat.le_refl _) (.cells #[.int .i64 8, .int .i64 0, .bool false, .slice none 0 0, .int .u64 0, .string ⟨#[]⟩, .slice B 2 2] 28)
  have bx3 := bx2.below hb2'
  have tv3 := tv2.bel hb2'
  go_wp2_with fail
  refine (above_any _ _ 1 1 [tTwo] (by exact ts2) (by simp [tTwo_ok]) (by omega) 4).mono ?_
  rw [above_one, tTwo_cap]
  generalize w2.alloc (.cells #[.int .i64 8, .int .i64 0, .bool false, .slice none 0 0, .int .u64 0, .string ⟨#[]⟩, .slice B 2 2] 28) = W2 at *
  clear c0 c1 c2 c3 c4 c5 c6
  rintro e w3 ⟨rfl, hb3⟩
  have bx4 := bx3.below hb3
  have tv4 := tv3.bel hb3
  have c0 := bx4.at.c0
  have c1 := bx4.at.c1
  have c2 := bx4.at.c2
  have c3 := bx4.at.c3
  have c4 := bx4.at.c4
  have c5 := bx4.at.c5
  have c6 := bx4.at.c6
  have ts4 := TVs.one tv4
  have hb3' := (Below.refl w3.heap.size w3).alloc (Nat.le_refl _) (.cells #[.int .i64 8, .int .i64 0, .bool false, .slice none 0 0, .int .u64 0, .string ⟨#[]⟩, .slice B 2 2] 28)
  go_wp2_with fail
  refine (above_any _ _ 1 1 [tTwo] (by exact ts4) (by simp [tTwo_ok]) (by omega) 5).mono ?_
  rw [above_one, tTwo_cap]
  rintro e w5 ⟨rfl, hb5⟩
  go_wp2
  go_ret
  have e1 := b3.trans (hb1.mono b3.size)
  have e2 := e1.trans (hb2.mono e1.size)
  have e3 := e2.trans (hb2'.mono e2.size)
  have e4 := e3.trans (hb3.mono e3.size)
  have e5 := e4.trans (hb3'.mono e4.size)
  exact ⟨rfl, e5.trans (hb5.mono e5.size)⟩
end Go.Proofs.Ytimcphdlahaboaa
