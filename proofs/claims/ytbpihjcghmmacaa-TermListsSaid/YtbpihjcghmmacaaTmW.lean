/-
  WHAT EVERY PROGRAM ANSWERS THAT IS ONE: awake of beehivelaw4.
-/
import Derived.Test.YtbpihjcghmmacaaTmV
namespace Go.Proofs.Ytbpihjcghmmacaa
open Go.RowKit

def tOne : Tm := .mk 1 1 false [] 0 ⟨#[]⟩ []
def tAll : Tm := .mk 3 0 false [] 18446744073709551615 ⟨#[]⟩ []
def tList1 : Tm := .mk 8 0 false [] 0 ⟨#[]⟩ [tOne, tNil]
theorem intT_one : intT 1 = tOne := intT_small (by have := Lm.top_ge; omega) (by decide)
theorem listT_one : listT [tOne] = tList1 := rfl
theorem tList1_ok : tList1.Ok := by simp [tList1, tOne, tNil, Tm.Ok, Tm.Oks, ByteArray.size]
theorem tOne_ok : tOne.Ok := by simp [tOne, Tm.Ok, Tm.Oks, ByteArray.size]
theorem tNil_ok : tNil.Ok := by simp [tNil, Tm.Ok, Tm.Oks, ByteArray.size]
theorem tAll_ok : tAll.Ok := by simp [tAll, Tm.Ok, Tm.Oks, ByteArray.size]
theorem tNil_cap : tNil.cap = 1 := by simp [Tm.cap, tNil, Tm.wt]
theorem tList1_may : tList1.mayB = true := by
  have h1 : tList1.cap = 3 := by simp [Tm.cap, tList1, tOne, tNil, Tm.wt, Tm.wts]
  have h2 : tList1.formB = true := by simp [tList1, tOne, tNil, Tm.formB, Tm.formsB, Tm.alikeB, Tm.ment, Tm.boundB, Tm.kind, Tm.num, Tm.args, Tm.mag, Tm.neg, Tm.bits, Tm.bytes]
  rw [Tm.mayB, h1, h2]; rfl
theorem tAll_may : tAll.mayB = false := by
  have h2 : tAll.formB = false := by
    have : (cleanI 18446744073709551615 == 18446744073709551615) = false := by decide
    simp [tAll, Tm.formB, Tm.formsB, Tm.boundB, Tm.kind, Tm.bits]
    intro _ h
    rw [h] at this
    simp at this
  rw [Tm.mayB, h2]; simp
theorem intT_top : (intT 1152921504606846976).kind = 2 := by
  rw [intT_big (by have := Lm.top_ge; omega) (by decide)]; rfl

theorem field_kind (R : TR) (w : World) : (Instr.field 28 (.agg #[.int .i64 R.k, .int .i64 R.n, .bool R.g, .slice R.A R.ln R.lc, .int .u64 R.u, .string R.s, .slice R.B R.m R.d]) 0).run Try.prog w = .ok (.int .i64 R.k) w := by kernel_rfl

set_option maxRecDepth 100000 in
set_option maxHeartbeats 4000000 in
theorem awake4 (w : World) : Calls Try.prog 8 #[] w fun e w' => e = .returned (.bool true) ∧ Below w.heap.size w w' := by
  go_enter Try.func8, Try.ntmps8
  go_wp2_with fail
  refine (int_any w 1 (by omega) (by omega)).mono ?_
  rw [intT_one]
  rintro e w1 ⟨R1, rfl, hT1, b1⟩
  have ts1 := TVs.one hT1
  have b1' := b1.alloc b1.size (.cells #[.int .i64 R1.k, .int .i64 R1.n, .bool R1.g, .slice R1.A R1.ln R1.lc, .int .u64 R1.u, .string R1.s, .slice R1.B R1.m R1.d] 28)
  go_wp2_with fail
  generalize w1.alloc (.cells #[.int .i64 R1.k, .int .i64 R1.n, .bool R1.g, .slice R1.A R1.ln R1.lc, .int .u64 R1.u, .string R1.s, .slice R1.B R1.m R1.d] 28) = W1 at *
  refine (list_any W1 _ 1 1 [tOne] (by exact ts1) (by simp [tOne_ok]) (by simp [Tm.size.sizes, tOne, Tm.size])).mono ?_
  rw [listT_one]
  rintro e w2 ⟨R2, rfl, hT2, hb2⟩
  have b2 := b1'.trans (hb2.mono b1'.size)
  have I : BxI w2 R2 tList1 (w2.alloc (.cells #[.int .i64 R2.k, .int .i64 R2.n, .bool R2.g, .slice R2.A R2.ln R2.lc, .int .u64 R2.u, .string R2.s, .slice R2.B R2.m R2.d] 28)) := BxI.new hT2
  have hk : (R2.k == 8) = true := by have := hT2.kind; rw [← this]; rfl
  have hm2 : R2.m = 2 := by rw [← hT2.len]; rfl
  have hm : ((R2.m : Int) == 2) = true := by rw [hm2]; rfl
  have hm1 : (1 : Int) < (R2.m : Int) := by omega
  have HM := Lib.hid hm2
  clear hm2 hT2 ts1
  have b2' := b2.alloc b2.size (.cells #[.int .i64 R2.k, .int .i64 R2.n, .bool R2.g, .slice R2.A R2.ln R2.lc, .int .u64 R2.u, .string R2.s, .slice R2.B R2.m R2.d] 28)
  have hBB : Hid (Below w.heap.size w w2) := Lib.hid b2
  go_wp2_with fail
  clear b2'
  generalize w2.alloc (.cells #[.int .i64 R2.k, .int .i64 R2.n, .bool R2.g, .slice R2.A R2.ln R2.lc, .int .u64 R2.u, .string R2.s, .slice R2.B R2.m R2.d] 28) = W2 at *
  refine (mayTerm_any W2 R2 tList1 I.tv tList1_ok).mono ?_
  rw [tList1_may]
  rintro e w3 ⟨rfl, hb3⟩
  have I3 := I.below hb3
  clear I
  obtain ⟨b, o, r', t', e, hlt, h7, het, htv'⟩ := I3.tv.args.get 1 (by rw [HM.out]; omega)
  have ht' : t' = tNil := by simpa [tList1, Tm.args] using het.symm
  subst ht'
  have x6 := I3.bx.at.c6
  rw [e] at x6
  clear e
  have y0 := h7.c0; have y1 := h7.c1; have y2 := h7.c2; have y3 := h7.c3; have y4 := h7.c4; have y5 := h7.c5; have y6 := h7.c6
  have hnil : TV w3 (mkR 7 0 0 ⟨#[]⟩ none 0 0) tNil := TV.leaf (by omega) (by omega) (by omega) (by omega) (by omega) (by omega) (by decide)
  go_wp2_with fail
  refine (same_light w3 r' tNil htv' tNil_ok (mkR 7 0 0 ⟨#[]⟩ none 0 0) tNil hnil tNil_ok (by rw [tNil_cap]; omega) rfl).mono ?_
  rw [Tm.sameB_refl]
  rintro e w4 ⟨rfl, hb4⟩
  have I4 := I3.below hb4
  have hall : TV w4 (mkR 3 0 18446744073709551615 ⟨#[]⟩ none 0 0) tAll := TV.leaf (by omega) (by omega) (by omega) (by omega) (by omega) (by omega) (by decide)
  clear I3 y0 y1 y2 y3 y4 y5 y6 x6 h7 htv' hnil
  go_wp2_with fail
  refine (mayTerm_any w4 (mkR 3 0 18446744073709551615 ⟨#[]⟩ none 0 0) tAll hall tAll_ok).mono ?_
  rw [tAll_may]
  rintro e w5 ⟨rfl, hb5⟩
  have I5 := I4.below hb5
  clear I4 hall
  go_wp2_with fail
  refine (int_any w5 1152921504606846976 (by omega) (by omega)).mono ?_
  rintro e w6 ⟨R6, rfl, hT6, hb6⟩
  have I6 := I5.below hb6
  have hk6 : (R6.k == 2) = true := by have := hT6.kind; rw [← this, intT_top]; rfl
  clear hT6 I5
  have hfl := field_kind R6
  go_wp2
  go_ret
  exact ⟨rfl, hBB.out.trans (I6.be.mono hBB.out.size)⟩
end Go.Proofs.Ytbpihjcghmmacaa
