/-
  THE REFERENCE's OfNum, Int.
-/
import Derived.Test.YtbpihjcghmmacaaTmR
import Derived.Deep.RegionLaw
namespace Go.Proofs.Ytbpihjcghmmacaa
open Go.RowKit

/-- append, as one step of a region that draws. -/
theorem step_app {P : Program} {ops : Array Oper} {o : Oper} {a : Act} {w w' : World} {K : Act → World → Prop} {Q : Exit → Act → World → Prop} {E : Prop}
    (hg : o.guard = none) (s x : Operand) (t : TypeId) (hop : o.op = Op.call { callee := Callee.builtin Builtin.append, args := #[s, x], argTypes := #[t, t] })
    (v y v' : Value) (hs : a.eval s = v) (hx : a.eval x = y) (hrun : (Builtin.append_ #[t, t] o.type #[v, y]).run P w = .ok v' w')
    (hK : K (a.put o.dst v') w') : if Region.wanted o (yielded ops a.tmps) = true then Oper.wp P o a w K Q else E := by
  have hw : Region.wanted o (yielded ops a.tmps) = true := by simp [Region.wanted, hg]
  rw [if_pos hw]
  unfold Oper.wp
  simp [execOp, hop, resolve, invoke, builtin, hs, hx, hrun, Result.andThen]
  exact hK

set_option maxHeartbeats 4000000 in
theorem refOfNum_any (w : World) (g : Bool) (A : Option Addr) (n c : Nat) (l : List Nat) (h : Raw w A n c l) (hn : n ≤ 1000) :
    Calls Try.prog 19 #[.agg #[.bool g, .slice A n c]] w (OfP w g l) := by
  have b0 := ((Below.refl w.heap.size w).alloc (Nat.le_refl _) (.cells #[.bool g, .slice A n c] 24)).alloc (by simp) (.cells #[.int .i64 zeroR.k, .int .i64 zeroR.n, .bool zeroR.g, .slice zeroR.A zeroR.ln zeroR.lc, .int .u64 zeroR.u, .string zeroR.s, .slice zeroR.B zeroR.m zeroR.d] 28)
  have hx := (Box.new w (.bool g) (.slice A n c)).below' ((Below.refl _ _).alloc (Nat.le_refl _) (.cells #[.int .i64 zeroR.k, .int .i64 zeroR.n, .bool zeroR.g, .slice zeroR.A zeroR.ln zeroR.lc, .int .u64 zeroR.u, .string zeroR.s, .slice zeroR.B zeroR.m zeroR.d] 28))
  have hy := Box7.new (w.alloc (.cells #[.bool g, .slice A n c] 24)) zeroR
  rw [World.size_alloc] at hy
  have hW : ((w.alloc (.cells #[.bool g, .slice A n c] 24)).alloc (.cells #[.int .i64 zeroR.k, .int .i64 zeroR.n, .bool zeroR.g, .slice zeroR.A zeroR.ln zeroR.lc, .int .u64 zeroR.u, .string zeroR.s, .slice zeroR.B zeroR.m zeroR.d] 28)).heap.size = w.heap.size + 2 := by simp
  have h0 := h.below b0
  go_enter Try.func19, Try.ntmps19
  go_wp2_with fail
  generalize (w.alloc (.cells #[.bool g, .slice A n c] 24)).alloc (.cells #[.int .i64 zeroR.k, .int .i64 zeroR.n, .bool zeroR.g, .slice zeroR.A zeroR.ln zeroR.lc, .int .u64 zeroR.u, .string zeroR.s, .slice zeroR.B zeroR.m zeroR.d] 28) = W at *
  refine (refMay_b W g A n c l h0).mono ?_
  rintro e w1 ⟨rfl, hb1⟩
  have hx1 := hx.below' hb1
  have hy1 := hy.below hb1
  have b1 := b0.trans (hb1.mono b0.size)
  have h1 := h0.below hb1
  have hsz1 : w.heap.size + 2 ≤ w1.heap.size := by rw [← hW]; exact hb1.size
  clear hx hy b0 h0
  cases hm : mayB g l with
  | false =>
    have hT := Lib.hid (show ofT g l = .mk 0 0 false [] 0 ⟨#[]⟩ [] by unfold ofT smOk; rw [hm]; rfl)
    have hM := Lib.hid hm
    have f0 := hy1.frozen 0; have f1 := hy1.frozen 1; have f2 := hy1.frozen 2; have f3 := hy1.frozen 3; have f4 := hy1.frozen 4; have f5 := hy1.frozen 5; have f6 := hy1.frozen 6; have q0 := hy1.at.c0; have q1 := hy1.at.c1; have q2 := hy1.at.c2; have q3 := hy1.at.c3; have q4 := hy1.at.c4; have q5 := hy1.at.c5; have q6 := hy1.at.c6
    go_wp2
    have C := (hy1.put zeroR).at
    have hB5 := b1.put7 (g := w.heap.size + 1) (by omega) zeroR
    have y0 := C.c0; have y1 := C.c1; have y2 := C.c2; have y3 := C.c3; have y4 := C.c4; have y5 := C.c5; have y6 := C.c6
    clear C f0 f1 f2 f3 f4 f5 f6 q0 q1 q2 q3 q4 q5 q6
    change bodyPost _ _ _ _ _ (put7 w1 (w.heap.size + 1) zeroR)
    generalize put7 w1 (w.heap.size + 1) zeroR = W5 at *
    exact bodyPost_ret (v := .tuple #[.agg #[.int .i64 0, .int .i64 0, .bool false, .slice none 0 0, .int .u64 0, .string ⟨#[]⟩, .slice none 0 0], .bool false]) (by simp [results, Try.results19, go_sem, y0, y1, y2, y3, y4, y5, y6]) rfl
      ⟨zeroR, by rw [hM.out], by rw [hT.out]; exact TV.zero, by rw [hT.out]; exact Own.nil _ _, rfl, hB5⟩
  | true =>
    have hM := Lib.hid hm
    have x0 := hx1.c0
    have x1 := hx1.c1
    go_wp2_with fail
    refine (refSmall_raw w1 g A n c l h1).mono ?_
    obtain ⟨z, hz⟩ : ∃ z, z = smZ g l := ⟨_, rfl⟩
    rw [← hz]
    have HZ := Lib.hid hz
    clear hz
    rintro e w2 ⟨rfl, hb2⟩
    have hx2 := hx1.below' hb2
    have hy2 := hy1.below hb2
    have b2 := b1.trans (hb2.mono b1.size)
    have h2 := h1.below hb2
    have hsz2 : w.heap.size + 2 ≤ w2.heap.size := Nat.le_trans hsz1 hb2.size
    clear hx1 hy1 b1 h1 x0 x1
    cases hs : smOk g l with
    | true =>
      have hT := Lib.hid (show ofT g l = .mk 1 z false [] 0 ⟨#[]⟩ [] by unfold ofT; rw [if_pos hs, HZ.out])
      have hzb := smZ_bd hs
      rw [← HZ.out] at hzb
      have f0 := hy2.frozen 0; have f1 := hy2.frozen 1; have f2 := hy2.frozen 2; have f3 := hy2.frozen 3; have f4 := hy2.frozen 4; have f5 := hy2.frozen 5; have f6 := hy2.frozen 6; have q0 := hy2.at.c0; have q1 := hy2.at.c1; have q2 := hy2.at.c2; have q3 := hy2.at.c3; have q4 := hy2.at.c4; have q5 := hy2.at.c5; have q6 := hy2.at.c6
      go_wp2
      have C := (hy2.put ⟨1, z, false, none, 0, 0, 0, ⟨#[]⟩, none, 0, 0⟩).at
      have hB5 := b2.put7 (g := w.heap.size + 1) (by omega) ⟨1, z, false, none, 0, 0, 0, ⟨#[]⟩, none, 0, 0⟩
      have y0 := C.c0; have y1 := C.c1; have y2 := C.c2; have y3 := C.c3; have y4 := C.c4; have y5 := C.c5; have y6 := C.c6
      clear C f0 f1 f2 f3 f4 f5 f6 q0 q1 q2 q3 q4 q5 q6
      change bodyPost _ _ _ _ _ (put7 w2 (w.heap.size + 1) ⟨1, z, false, none, 0, 0, 0, ⟨#[]⟩, none, 0, 0⟩)
      generalize put7 w2 (w.heap.size + 1) ⟨1, z, false, none, 0, 0, 0, ⟨#[]⟩, none, 0, 0⟩ = W5 at *
      exact bodyPost_ret (v := .tuple #[.agg #[.int .i64 1, .int .i64 z, .bool false, .slice none 0 0, .int .u64 0, .string ⟨#[]⟩, .slice none 0 0], .bool true]) (by simp [results, Try.results19, go_sem, y0, y1, y2, y3, y4, y5, y6]) rfl
        ⟨⟨1, z, false, none, 0, 0, 0, ⟨#[]⟩, none, 0, 0⟩, by rw [hM.out], by rw [hT.out]; exact TV.int hzb.1 hzb.2, by rw [hT.out]; exact Own.nil _ _, rfl, hB5⟩
    | false =>
      have hT := Lib.hid (show ofT g l = .mk 2 0 g l 0 ⟨#[]⟩ [] by unfold ofT; rw [if_neg (by rw [hs]; decide), if_pos hM.out])
      have hb3 := (Below.refl w2.heap.size w2).drew
      obtain ⟨A', c', w3, hrun, hO, hB⟩ := append_lim w2.drew w2.drew.heap.size none 0 0 [] (Own.nil _ _) A n c l (h2.below hb3).1 (by omega) (Nat.le_refl _) 22
      rw [Nat.zero_add, List.nil_append] at hO
      rw [Nat.zero_add] at hrun
      have HR := Lib.hid hrun
      clear hrun
      have hx3 := hx2.below' hb3
      have hy3 := hy2.below hb3
      have hx4 := hx3.below' hB
      have hy4 := hy3.below hB
      have b4 := (b2.trans (hb3.mono b2.size)).trans (hB.mono (by exact b2.size))
      have hszd : w.heap.size + 2 ≤ w2.drew.heap.size := hsz2
      have x0 := hx3.c0
      have x1 := hx3.c1
      have v0 := hx4.c0
      have v1 := hx4.c1
      have f0 := hy4.frozen 0; have f1 := hy4.frozen 1; have f2 := hy4.frozen 2; have f3 := hy4.frozen 3; have f4 := hy4.frozen 4; have f5 := hy4.frozen 5; have f6 := hy4.frozen 6; have q0 := hy4.at.c0; have q1 := hy4.at.c1; have q2 := hy4.at.c2; have q3 := hy4.at.c3; have q4 := hy4.at.c4; have q5 := hy4.at.c5; have q6 := hy4.at.c6
      go_wp2_with fail
      go_region_law (first | (refine step_app rfl _ _ 22 rfl _ _ _ rfl rfl HR.out ?_))
      all_goals
        go_wp2
        have C := (hy4.put ⟨2, 0, g, A', n, c', 0, ⟨#[]⟩, none, 0, 0⟩).at
        have hB5 := b4.put7 (g := w.heap.size + 1) (by omega) ⟨2, 0, g, A', n, c', 0, ⟨#[]⟩, none, 0, 0⟩
        have hO5 : Own (put7 w3 (w.heap.size + 1) ⟨2, 0, g, A', n, c', 0, ⟨#[]⟩, none, 0, 0⟩) w2.drew.heap.size A' n c' l :=
          ((((((hO.setO (p := ⟨w.heap.size + 1, 0, none⟩) (by simp only; omega) _).setO (p := ⟨w.heap.size + 1, 1, none⟩) (by simp only; omega) _).setO (p := ⟨w.heap.size + 1, 2, none⟩) (by simp only; omega) _).setO (p := ⟨w.heap.size + 1, 3, none⟩) (by simp only; omega) _).setO (p := ⟨w.heap.size + 1, 4, none⟩) (by simp only; omega) _).setO (p := ⟨w.heap.size + 1, 5, none⟩) (by simp only; omega) _).setO (p := ⟨w.heap.size + 1, 6, none⟩) (by simp only; omega) _
        have y0 := C.c0; have y1 := C.c1; have y2 := C.c2; have y3 := C.c3; have y4 := C.c4; have y5 := C.c5; have y6 := C.c6
        clear C f0 f1 f2 f3 f4 f5 f6 q0 q1 q2 q3 q4 q5 q6 x0 x1 v0 v1
        change bodyPost _ _ _ _ _ (put7 w3 (w.heap.size + 1) ⟨2, 0, g, A', n, c', 0, ⟨#[]⟩, none, 0, 0⟩)
        generalize put7 w3 (w.heap.size + 1) ⟨2, 0, g, A', n, c', 0, ⟨#[]⟩, none, 0, 0⟩ = W5 at *
        exact bodyPost_ret (v := .tuple #[.agg #[.int .i64 2, .int .i64 0, .bool g, .slice A' n c', .int .u64 0, .string ⟨#[]⟩, .slice none 0 0], .bool true]) (by simp [results, Try.results19, go_sem, y0, y1, y2, y3, y4, y5, y6]) rfl
          ⟨⟨2, 0, g, A', n, c', 0, ⟨#[]⟩, none, 0, 0⟩, by rw [hM.out], by rw [hT.out]; exact TV.big hO5.lim hO5.cap.2, by rw [hT.out]; exact hO5.mono (by omega), rfl, hB5⟩
set_option maxHeartbeats 2000000 in
theorem refInt_any (w : World) (z : Int) (h1 : -9223372036854775808 ≤ z) (h2 : z ≤ 9223372036854775807) :
    Calls Try.prog 22 #[.int .i64 z] w (RetT w (intT z)) := by
  have b0 := (Below.refl w.heap.size w).alloc (Nat.le_refl _) (.cells #[.int .i64 zeroR.k, .int .i64 zeroR.n, .bool zeroR.g, .slice zeroR.A zeroR.ln zeroR.lc, .int .u64 zeroR.u, .string zeroR.s, .slice zeroR.B zeroR.m zeroR.d] 28)
  have hx := Box7.new w zeroR
  have htop : z.natAbs < Lm.top := by have := Lm.top_ge; omega
  have hlen := (Lm.top_iff _).2 htop
  go_enter Try.func22, Try.ntmps22
  go_wp2_with fail
  have hW : (w.alloc (.cells #[.int .i64 zeroR.k, .int .i64 zeroR.n, .bool zeroR.g, .slice zeroR.A zeroR.ln zeroR.lc, .int .u64 zeroR.u, .string zeroR.s, .slice zeroR.B zeroR.m zeroR.d] 28)).heap.size = w.heap.size + 1 := by simp
  generalize w.alloc (.cells #[.int .i64 zeroR.k, .int .i64 zeroR.n, .bool zeroR.g, .slice zeroR.A zeroR.ln zeroR.lc, .int .u64 zeroR.u, .string zeroR.s, .slice zeroR.B zeroR.m zeroR.d] 28) = W at *
  refine (refOf_any W z h1 h2).mono ?_
  rintro e w1 ⟨V, rfl, ⟨s, A, n, c, rfl, hs, hO⟩, hb1⟩
  have hx1 := hx.below hb1
  have b1 := b0.trans (hb1.mono b0.size)
  have hsz1 : w.heap.size + 1 ≤ w1.heap.size := by rw [← hW]; exact hb1.size
  have hn : n ≤ 1000 := by rw [← hO.2.1]; omega
  go_wp2_with fail
  refine (refOfNum_any w1 s A n c _ ⟨hO.lim, hO.cap.2⟩ hn).mono ?_
  rintro e w2 ⟨R, rfl, hT, hO2, hm0, hb2⟩
  have tS0 : TVS (fun b => w.heap.size + 1 ≤ b) w2 R _ := TVS.leafy hT (fun _ a e => by rw [e] at hO2; have := (World.ownsRow.lt hO2.2.2 a.block rfl).1; omega) hm0
  clear hm0 hO2
  rw [hs.out] at tS0
  have tS := Lib.hid tS0
  clear tS0 hT
  have hx2 := hx1.below hb2
  have b2 := b1.trans (hb2.mono b1.size)
  have hsz2 : w.heap.size + 1 ≤ w2.heap.size := Nat.le_trans hsz1 hb2.size
  generalize mayB s (Lm.digits z.natAbs) = ok
  clear hx hx1 b0 b1 hO hs
  have f0 := hx2.frozen 0; have f1 := hx2.frozen 1; have f2 := hx2.frozen 2; have f3 := hx2.frozen 3; have f4 := hx2.frozen 4; have f5 := hx2.frozen 5; have f6 := hx2.frozen 6; have q0 := hx2.at.c0; have q1 := hx2.at.c1; have q2 := hx2.at.c2; have q3 := hx2.at.c3; have q4 := hx2.at.c4; have q5 := hx2.at.c5; have q6 := hx2.at.c6
  have hlt : w.heap.size < w2.heap.size := by omega
  go_wp2
  have C := ((hx2.put R).below ((Below.refl _ _).alloc (Nat.le_refl _) (.cells #[.int .i64 R.k, .int .i64 R.n, .bool R.g, .slice R.A R.ln R.lc, .int .u64 R.u, .string R.s, .slice R.B R.m R.d] 28))).at
  have hB5 := (b2.put7 (g := w.heap.size) (Nat.le_refl _) R).alloc (by rw [put7_size]; omega) (.cells #[.int .i64 R.k, .int .i64 R.n, .bool R.g, .slice R.A R.ln R.lc, .int .u64 R.u, .string R.s, .slice R.B R.m R.d] 28)
  have hT5 := (tS.out.keep (((Keeps.refl _ w2).put7 (g := w.heap.size) (by omega) R).alloc (.cells #[.int .i64 R.k, .int .i64 R.n, .bool R.g, .slice R.A R.ln R.lc, .int .u64 R.u, .string R.s, .slice R.B R.m R.d] 28))).tv
  have y0 := C.c0; have y1 := C.c1; have y2 := C.c2; have y3 := C.c3; have y4 := C.c4; have y5 := C.c5; have y6 := C.c6
  clear C f0 f1 f2 f3 f4 f5 f6 q0 q1 q2 q3 q4 q5 q6 hx2 b2 tS
  change bodyPost _ _ _ _ _ ((put7 w2 w.heap.size R).alloc (.cells #[.int .i64 R.k, .int .i64 R.n, .bool R.g, .slice R.A R.ln R.lc, .int .u64 R.u, .string R.s, .slice R.B R.m R.d] 28))
  generalize (put7 w2 w.heap.size R).alloc (.cells #[.int .i64 R.k, .int .i64 R.n, .bool R.g, .slice R.A R.ln R.lc, .int .u64 R.u, .string R.s, .slice R.B R.m R.d] 28) = W5 at *
  exact bodyPost_ret (v := .agg #[.int .i64 R.k, .int .i64 R.n, .bool R.g, .slice R.A R.ln R.lc, .int .u64 R.u, .string R.s, .slice R.B R.m R.d]) (by simp [results, Try.results22, go_sem, y0, y1, y2, y3, y4, y5, y6]) rfl ⟨R, rfl, hT5, hB5⟩

end Go.Proofs.Ytbpihjcghmmacaa
