/-
  PACKAGE term: Int, Atom.
-/
import Derived.Test.YtbpihjcghmmacaaTmQ
namespace Go.Proofs.Ytbpihjcghmmacaa
open Go.RowKit

/-- The term of a small integer. -/
def intT (z : Int) : Tm := ofT (decide (z < 0)) (Lm.digits z.natAbs)
theorem may_digits (z : Int) (ht : z.natAbs < Lm.top) : mayB (decide (z < 0)) (Lm.digits z.natAbs) = true := by
  unfold mayB
  by_cases h0 : (Lm.digits z.natAbs).length = 0
  · rw [if_pos h0]
    have : z.natAbs = 0 := Lm.digits_eq_nil.1 (List.eq_nil_of_length_eq_zero h0)
    have hz : z = 0 := by omega
    subst hz
    rfl
  · rw [if_neg h0]
    have h1 := (Lm.top_iff _).2 ht
    have h2 := Lm.canon_digits z.natAbs (by omega)
    simp [h1]
    exact h2
theorem sgn_digits (z : Int) : sgn (decide (z < 0)) (Lm.val (Lm.digits z.natAbs)) = z := by
  rw [Lm.val_digits]
  unfold sgn
  by_cases hz : z < 0
  · simp [hz]; omega
  · simp [hz]; omega
theorem intT_small {z : Int} (ht : z.natAbs < Lm.top) (h : smallB z = true) : intT z = .mk 1 z false [] 0 ⟨#[]⟩ [] := by
  unfold intT ofT smZ smOk
  rw [may_digits z ht, sgn_digits, h]
  rfl
theorem intT_big {z : Int} (ht : z.natAbs < Lm.top) (h : smallB z = false) : intT z = .mk 2 0 (decide (z < 0)) (Lm.digits z.natAbs) 0 ⟨#[]⟩ [] := by
  unfold intT ofT smOk
  rw [may_digits z ht, sgn_digits, h]
  rfl

theorem TVS.leafy {S : Nat → Prop} {w : World} {R : TR} {t : Tm} (h : TV w R t) (ho : 0 < R.ln → ∀ a, R.A = some a → S a.block) (hm : R.m = 0) : TVS S w R t := by
  cases h with
  | mk _ l ks V hf hm' hs hk =>
    refine .mk R l ks V hf hm' hs ⟨ho, fun h => absurd h (by omega)⟩ (fun i t e => ?_)
    rw [List.eq_nil_of_length_eq_zero (hm'.trans hm)] at e
    simp at e
/-- A call leaves this term. -/
def RetT (w : World) (t : Tm) (e : Ending) (w' : World) : Prop := ∃ R : TR, e = .returned (.agg #[.int .i64 R.k, .int .i64 R.n, .bool R.g, .slice R.A R.ln R.lc, .int .u64 R.u, .string R.s, .slice R.B R.m R.d]) ∧ TV w' R t ∧ Below w.heap.size w w'

set_option maxHeartbeats 2000000 in
theorem int_any (w : World) (z : Int) (h1 : -9223372036854775808 ≤ z) (h2 : z ≤ 9223372036854775807) :
    Calls Try.prog 21 #[.int .i64 z] w (RetT w (intT z)) := by
  have b0 := (Below.refl w.heap.size w).alloc (Nat.le_refl _) (.cells #[.int .i64 zeroR.k, .int .i64 zeroR.n, .bool zeroR.g, .slice zeroR.A zeroR.ln zeroR.lc, .int .u64 zeroR.u, .string zeroR.s, .slice zeroR.B zeroR.m zeroR.d] 28)
  have hx := Box7.new w zeroR
  have htop : z.natAbs < Lm.top := by have := Lm.top_ge; omega
  have hlen := (Lm.top_iff _).2 htop
  go_enter Try.func21, Try.ntmps21
  go_wp2_with fail
  have hW : (w.alloc (.cells #[.int .i64 zeroR.k, .int .i64 zeroR.n, .bool zeroR.g, .slice zeroR.A zeroR.ln zeroR.lc, .int .u64 zeroR.u, .string zeroR.s, .slice zeroR.B zeroR.m zeroR.d] 28)).heap.size = w.heap.size + 1 := by simp
  generalize w.alloc (.cells #[.int .i64 zeroR.k, .int .i64 zeroR.n, .bool zeroR.g, .slice zeroR.A zeroR.ln zeroR.lc, .int .u64 zeroR.u, .string zeroR.s, .slice zeroR.B zeroR.m zeroR.d] 28) = W at *
  refine (of_any W z h1 h2).mono ?_
  rintro e w1 ⟨V, rfl, ⟨s, A, n, c, rfl, hs, hO⟩, hb1⟩
  have hx1 := hx.below hb1
  have b1 := b0.trans (hb1.mono b0.size)
  have hsz1 : w.heap.size + 1 ≤ w1.heap.size := by rw [← hW]; exact hb1.size
  have hn : n ≤ 1000 := by rw [← hO.2.1]; omega
  go_wp2_with fail
  refine (ofNum_any w1 s A n c _ ⟨hO.lim, hO.cap.2⟩ hn).mono ?_
  rintro e w2 ⟨R, rfl, hT, hO2, hm0, hb2⟩
  have tS0 : TVS (fun b => w.heap.size + 1 ≤ b) w2 R _ := TVS.leafy hT (fun _ a e => by rw [e] at hO2; have := (World.ownsRow.lt hO2.2.2 a.block rfl).1; omega) hm0
  clear hm0 hO2
  rw [hs.out] at tS0
  have tS := Lib.hid tS0
  clear tS0 hT
  have hx2 := hx1.below hb2
  have b2 := b1.trans (hb2.mono b1.size)
  have hsz2 : w.heap.size + 1 ≤ w2.heap.size := Nat.le_trans hsz1 hb2.size
  generalize mayB s (Lm.digits z.natAbs) = ok
  clear hx hx1 b0 b1 hO hs
  have f0 := hx2.frozen 0; have f1 := hx2.frozen 1; have f2 := hx2.frozen 2; have f3 := hx2.frozen 3; have f4 := hx2.frozen 4; have f5 := hx2.frozen 5; have f6 := hx2.frozen 6; have q0 := hx2.at.c0; have q1 := hx2.at.c1; have q2 := hx2.at.c2; have q3 := hx2.at.c3; have q4 := hx2.at.c4; have q5 := hx2.at.c5; have q6 := hx2.at.c6
  have hlt : w.heap.size < w2.heap.size := by omega
  go_wp2
  have C := ((hx2.put R).below ((Below.refl _ _).alloc (Nat.le_refl _) (.cells #[.int .i64 R.k, .int .i64 R.n, .bool R.g, .slice R.A R.ln R.lc, .int .u64 R.u, .string R.s, .slice R.B R.m R.d] 28))).at
  have hB5 := (b2.put7 (g := w.heap.size) (Nat.le_refl _) R).alloc (by rw [put7_size]; omega) (.cells #[.int .i64 R.k, .int .i64 R.n, .bool R.g, .slice R.A R.ln R.lc, .int .u64 R.u, .string R.s, .slice R.B R.m R.d] 28)
  have hT5 := (tS.out.keep (((Keeps.refl _ w2).put7 (g := w.heap.size) (by omega) R).alloc (.cells #[.int .i64 R.k, .int .i64 R.n, .bool R.g, .slice R.A R.ln R.lc, .int .u64 R.u, .string R.s, .slice R.B R.m R.d] 28))).tv
  have y0 := C.c0; have y1 := C.c1; have y2 := C.c2; have y3 := C.c3; have y4 := C.c4; have y5 := C.c5; have y6 := C.c6
  clear C f0 f1 f2 f3 f4 f5 f6 q0 q1 q2 q3 q4 q5 q6 hx2 b2 tS
  change bodyPost _ _ _ _ _ ((put7 w2 w.heap.size R).alloc (.cells #[.int .i64 R.k, .int .i64 R.n, .bool R.g, .slice R.A R.ln R.lc, .int .u64 R.u, .string R.s, .slice R.B R.m R.d] 28))
  generalize (put7 w2 w.heap.size R).alloc (.cells #[.int .i64 R.k, .int .i64 R.n, .bool R.g, .slice R.A R.ln R.lc, .int .u64 R.u, .string R.s, .slice R.B R.m R.d] 28) = W5 at *
  exact bodyPost_ret (v := .agg #[.int .i64 R.k, .int .i64 R.n, .bool R.g, .slice R.A R.ln R.lc, .int .u64 R.u, .string R.s, .slice R.B R.m R.d]) (by simp [results, Try.results21, go_sem, y0, y1, y2, y3, y4, y5, y6]) rfl ⟨R, rfl, hT5, hB5⟩

set_option maxHeartbeats 2000000 in
theorem atom_any (w : World) (z : Int) (h1 : -9223372036854775808 ≤ z) (h2 : z ≤ 9223372036854775807) :
    Calls Try.prog 23 #[.int .i64 z] w (RetT w (.mk 4 z false [] 0 ⟨#[]⟩ [])) := by
  go_enter Try.func23, Try.ntmps23
  go_wp2
  exact bodyPost_ret (v := .agg #[.int .i64 (TR.mk 4 z false none 0 0 0 ⟨#[]⟩ none 0 0).k, .int .i64 (TR.mk 4 z false none 0 0 0 ⟨#[]⟩ none 0 0).n, .bool (TR.mk 4 z false none 0 0 0 ⟨#[]⟩ none 0 0).g, .slice (TR.mk 4 z false none 0 0 0 ⟨#[]⟩ none 0 0).A (TR.mk 4 z false none 0 0 0 ⟨#[]⟩ none 0 0).ln (TR.mk 4 z false none 0 0 0 ⟨#[]⟩ none 0 0).lc, .int .u64 (TR.mk 4 z false none 0 0 0 ⟨#[]⟩ none 0 0).u, .string (TR.mk 4 z false none 0 0 0 ⟨#[]⟩ none 0 0).s, .slice (TR.mk 4 z false none 0 0 0 ⟨#[]⟩ none 0 0).B (TR.mk 4 z false none 0 0 0 ⟨#[]⟩ none 0 0).m (TR.mk 4 z false none 0 0 0 ⟨#[]⟩ none 0 0).d]) (by simp [results, Try.results23, go_sem]) rfl ⟨⟨4, z, false, none, 0, 0, 0, ⟨#[]⟩, none, 0, 0⟩, rfl, TV.mk' (by omega) (by omega) h1 h2 (by omega) (by omega) (Lim.nil _ _ _) (Nat.zero_le _) (Nat.zero_le _) (TVs.nil _ _ _ (Nat.zero_le _)), (Below.refl _ _).alloc (Nat.le_refl _) _⟩
set_option maxHeartbeats 2000000 in
theorem refAtom_any (w : World) (z : Int) (h1 : -9223372036854775808 ≤ z) (h2 : z ≤ 9223372036854775807) :
    Calls Try.prog 24 #[.int .i64 z] w (RetT w (.mk 4 z false [] 0 ⟨#[]⟩ [])) := by
  go_enter Try.func24, Try.ntmps24
  go_wp2
  exact bodyPost_ret (v := .agg #[.int .i64 (TR.mk 4 z false none 0 0 0 ⟨#[]⟩ none 0 0).k, .int .i64 (TR.mk 4 z false none 0 0 0 ⟨#[]⟩ none 0 0).n, .bool (TR.mk 4 z false none 0 0 0 ⟨#[]⟩ none 0 0).g, .slice (TR.mk 4 z false none 0 0 0 ⟨#[]⟩ none 0 0).A (TR.mk 4 z false none 0 0 0 ⟨#[]⟩ none 0 0).ln (TR.mk 4 z false none 0 0 0 ⟨#[]⟩ none 0 0).lc, .int .u64 (TR.mk 4 z false none 0 0 0 ⟨#[]⟩ none 0 0).u, .string (TR.mk 4 z false none 0 0 0 ⟨#[]⟩ none 0 0).s, .slice (TR.mk 4 z false none 0 0 0 ⟨#[]⟩ none 0 0).B (TR.mk 4 z false none 0 0 0 ⟨#[]⟩ none 0 0).m (TR.mk 4 z false none 0 0 0 ⟨#[]⟩ none 0 0).d]) (by simp [results, Try.results24, go_sem]) rfl ⟨⟨4, z, false, none, 0, 0, 0, ⟨#[]⟩, none, 0, 0⟩, rfl, TV.mk' (by omega) (by omega) h1 h2 (by omega) (by omega) (Lim.nil _ _ _) (Nat.zero_le _) (Nat.zero_le _) (TVs.nil _ _ _ (Nat.zero_le _)), (Below.refl _ _).alloc (Nat.le_refl _) _⟩
end Go.Proofs.Ytbpihjcghmmacaa
