/-
  BYTES THAT CAME IN.
  A NUMBER BELOW A BOUND: beehivelaw0.Low.
  THE WALK OF WireBack.
-/
import Derived.Test.YtomohdfcggghoaaJ9
import Derived.Test.YtomohdfcggghoaaJ6
import Derived.Test.YtomohdfcggghoaaJ1
import Derived.Test.YtomohdfcggghoaaJ12
namespace Go.Proofs.Ytomohdfcggghoaa
open Go.RowKit Go.ChangeShapes Go.WideShapes

set_option maxRecDepth 100000 in
theorem open_by0 {H : Type} {enc : TypeId × Value → H} {W : World} {fuel : Nat} {cs : List Value} {x : DataW H × List MemPlace}
    (h : DataW.trod enc Try.prog W 0 (fun _ => true) true fuel 31 cs = some x) :
    ∃ (A : Option Addr) (n c : Nat) (l : List Nat), cs = [.slice A n c] ∧ By W A n c l ∧ c ≤ maxLen := by
  rcases open_ints Try.underlying31 Try.underlying5 (by kernel_rfl) h with ⟨e1, _⟩ | ⟨a, len, cap, zs, e1, _, hl, hm, hz, _, hcell, hwz⟩
  · exact ⟨none, 0, 0, [], e1, By.nil W none 0, Nat.zero_le _⟩
  · simp only [if_true] at hz
    have hb : ∀ j, j < zs.length → 0 ≤ zs.getD j 0 ∧ zs.getD j 0 ≤ 255 := fun j hj => by
      have hmem : zs.getD j 0 ∈ zs := by
        rw [List.getD_eq_getElem?_getD, List.getElem?_eq_getElem hj, Option.getD_some]
        exact List.getElem_mem hj
      have := hwz _ hmem
      generalize zs.getD j 0 = y at this ⊢
      simp [Lit.wf, IntKind.min, IntKind.max, IntKind.signed, IntKind.bits] at this
      omega
    have hlg : ∀ j, j < len → Lm.lg ((zs.take len).map Int.toNat) j = (zs.getD j 0).toNat := fun j hj => by
      simp only [Lm.lg, List.getD_eq_getElem?_getD, List.getElem?_map, List.getElem?_take_of_lt hj]
      rw [List.getElem?_eq_getElem (by omega)]
      rfl
    refine ⟨some a, len, cap, (zs.take len).map Int.toNat, e1, ⟨?_, hl, ?_, fun hn => ?_⟩, hm⟩
    · rw [List.length_map, List.length_take]; omega
    · intro x hx
      rw [List.mem_map] at hx
      obtain ⟨y, hy, rfl⟩ := hx
      have := hwz y (List.mem_of_mem_take hy)
      simp [Lit.wf, IntKind.min, IntKind.max, IntKind.signed, IntKind.bits] at this
      omega
    · have h0 := hcell 0 (by omega)
      have hspot : a.spot = none := by
        have := World.cell?_spot h0
        simpa [Addr.add] using this
      obtain ⟨b, o, sp⟩ := a
      simp only at hspot
      subst hspot
      refine ⟨b, o, rfl, ?_, fun j hj => ?_⟩
      · have := World.block_lt_of_cell? W _ h0
        rw [add_none] at this
        exact this
      · rw [hlg j hj, ← add_none b o j, hcell j (by omega)]
        have := hb j (by omega)
        congr 2
        omega
set_option maxRecDepth 100000 in
set_option maxRecDepth 100000 in
theorem open_by {H : Type} {enc : TypeId × Value → H} {W : World} {v : Value} {d : DataW H} {p : List MemPlace}
    (hv : ∃ a n c, v = .slice a n c) (h : DataW.Trod enc Try.prog W 0 (fun _ => true) true 31 v d p) :
    ∃ (A : Option Addr) (n c : Nat) (l : List Nat), v = .slice A n c ∧ By W A n c l ∧ c ≤ maxLen := by
  obtain ⟨a, n, c, rfl⟩ := hv
  obtain ⟨fuel, hf⟩ := h
  obtain ⟨A, m, d, l, hc, hl, hm⟩ := open_by0 (fuel := fuel) (cs := [.slice a n c]) (by simpa [Value.cells] using hf)
  simp only [List.cons.injEq, and_true] at hc
  exact ⟨A, m, d, l, hc, hl, hm⟩
end Go.Proofs.Ytomohdfcggghoaa

namespace Go.Proofs.Ytomohdfcggghoaa
open Go.RowKit

set_option maxRecDepth 100000 in
theorem low_nval (x : Int) (m : Nat) (hm : 0 < m) (hm' : m ≤ 1000000000) : ∃ r : Nat, r < m ∧ wrap64 ((IntKind.u64.wrap x).tmod m) = (r : Int) := by
  have h0 : 0 ≤ IntKind.u64.wrap x := by rw [IntKind.wrap_u64]; omega
  generalize IntKind.u64.wrap x = y at *
  have h1 : y.tmod m = y % m := Int.tmod_eq_emod_of_nonneg h0
  have h2 := Int.emod_nonneg y (show (m : Int) ≠ 0 by omega)
  have h3 := Int.emod_lt_of_pos y (show (0 : Int) < m by omega)
  rw [h1]
  generalize y % (m : Int) = z at *
  exact ⟨z.toNat, by omega, by simp only [wrap64]; omega⟩
set_option maxRecDepth 100000 in
theorem low_nat (x : Int) (m : Nat) (hm : 0 < m) (hm' : m ≤ 1000000000) : ∃ r : Nat, r < m ∧
    ∀ w : World, Calls Try.prog 19 #[.int .i64 x, .int .i64 m] w fun e w' => e = .returned (.int .i64 r) ∧ w = w' := by
  obtain ⟨r, h1, h2⟩ := low_nval x m hm hm'
  have H2 := Lib.hid h2
  clear h2
  refine ⟨r, h1, fun w => ?_⟩
  go_enter Try.func19, Try.ntmps19
  go_wp2
  go_ret
  exact ⟨by rw [← H2.out]; rfl, rfl⟩
end Go.Proofs.Ytomohdfcggghoaa

namespace Go.Proofs.Ytomohdfcggghoaa
open Go.RowKit

/-- What WireBack has all along: its term, and the bytes that came in. -/
structure Bk (w : World) (r : TR) (t : Tm) (A1 : Option Addr) (n1 c1 : Nat) (l1 : List Nat) (A2 : Option Addr) (n2 c2 : Nat) (l2 : List Nat) (W : World) : Prop where
  bx : Box7 W w.heap.size r
  tv : TV W r t
  b1 : By W A1 n1 c1 l1
  b2 : By W A2 n2 c2 l2
  be : Below w.heap.size w W
set_option maxRecDepth 100000 in
theorem Bk.below {w : World} {r : TR} {t : Tm} {A1 : Option Addr} {n1 c1 : Nat} {l1 : List Nat} {A2 : Option Addr} {n2 c2 : Nat} {l2 : List Nat} {W W' : World} (h : Bk w r t A1 n1 c1 l1 A2 n2 c2 l2 W) (hb : Below W.heap.size W W') : Bk w r t A1 n1 c1 l1 A2 n2 c2 l2 W' :=
  ⟨h.bx.below hb, h.tv.bel hb, h.b1.below hb, h.b2.below hb, h.be.trans (hb.mono h.be.size)⟩
set_option maxRecDepth 100000 in
theorem TV.fit {w : World} {r : TR} {t : Tm} (h : TV w r t) : Wr.Fit t := by
  induction h with
  | mk r l ks V hf hm hs hk ih =>
    refine Wr.fit_mk.2 ⟨hf.lim.2.2.1, hf.u0, by have := hf.u1; omega, fun t ht => ?_⟩
    obtain ⟨i, hi, e⟩ := List.getElem_of_mem ht
    exact ih i t (by rw [List.getElem?_eq_getElem hi, e])
set_option maxRecDepth 100000 in
theorem rdO_nat (B : List Nat) (a : Nat) : Wr.rdO B (a : Int) = Wr.readO true B a := by
  unfold Wr.rdO
  rw [if_neg (by omega), Int.toNat_natCast]
def tZero : Tm := .mk 0 0 false [] 0 ⟨#[]⟩ []
set_option maxRecDepth 100000 in
theorem TV.zero7 {w : World} : TV w zeroR tZero := TV.leaf (k := 0) (n := 0) (u := 0) (s := ⟨#[]⟩) (by omega) (by omega) (by omega) (by omega) (by omega) (by omega) (by decide)

set_option maxRecDepth 100000 in
set_option maxRecDepth 100000 in
set_option maxHeartbeats 8000000 in
theorem wireBack_walk (w : World) (r : TR) (t : Tm) (h : TV w r t) (A1 : Option Addr) (n1 c1 : Nat) (l1 : List Nat) (h1 : By w A1 n1 c1 l1) (_m1 : c1 ≤ maxLen) (A2 : Option Addr) (n2 c2 : Nat) (l2 : List Nat) (h2 : By w A2 n2 c2 l2) (m2 : c2 ≤ maxLen) (z : Int) (_z1 : -9223372036854775808 ≤ z) (_z2 : z ≤ 9223372036854775807) :
    Calls Try.prog 5 #[.agg #[.int .i64 r.k, .int .i64 r.n, .bool r.g, .slice r.A r.ln r.lc, .int .u64 r.u, .string r.s, .slice r.B r.m r.d], .slice A1 n1 c1, .slice A2 n2 c2, .int .i64 z] w fun e w' => e = .returned (.bool true) ∧ Below w.heap.size w w' := by
  have al := (Below.refl w.heap.size w).alloc (Nat.le_refl _) (.cells #[.int .i64 r.k, .int .i64 r.n, .bool r.g, .slice r.A r.ln r.lc, .int .u64 r.u, .string r.s, .slice r.B r.m r.d] 28)
  have I : Bk w r t A1 n1 c1 l1 A2 n2 c2 l2 (w.alloc (.cells #[.int .i64 r.k, .int .i64 r.n, .bool r.g, .slice r.A r.ln r.lc, .int .u64 r.u, .string r.s, .slice r.B r.m r.d] 28)) := ⟨Box7.new w r, h.bel al, h1.below al, h2.below al, al⟩
  have hfit := h.fit
  have hl1 := Lib.hid h1.1
  have hl2 := Lib.hid h2.1
  have hs1 := h1.2.2.1
  have hs2 := h2.2.2.1
  have nc1 := h1.2.1
  have nc2 := h2.2.1
  have M2 := m2
  unfold maxLen at _m1 m2
  clear h h1 h2 al
  go_enter Try.func5, Try.ntmps5
  go_wp2_with fail
  generalize w.alloc (.cells #[.int .i64 r.k, .int .i64 r.n, .bool r.g, .slice r.A r.ln r.lc, .int .u64 r.u, .string r.s, .slice r.B r.m r.d] 28) = W at *
  refine (greatT_any W r t I.tv 500 (by omega) (by omega)).mono ?_
  rintro e w1 ⟨rfl, hb⟩
  have I1 := I.below hb
  clear I hb
  cases g1 : greatB [t] 500 with
  | true =>
    go_wp2_with fail
    refine (awake7 w1).mono ?_
    rintro e w2 ⟨rfl, hb⟩
    go_wp2
    go_ret
    exact ⟨rfl, (I1.below hb).be⟩
  | false =>
  have ok1 := great_ok g1
  clear g1
  by_cases hn1 : 1000 < n1
  · have d1 : (1000 : Int) < (n1 : Int) := by omega
    go_wp2_with fail
    refine (awake7 w1).mono ?_
    rintro e w2 ⟨rfl, hb⟩
    go_wp2
    go_ret
    exact ⟨rfl, (I1.below hb).be⟩
  have d1 : ¬ (1000 : Int) < (n1 : Int) := by omega
  by_cases hn2 : 1000 < n2
  · have d2 : (1000 : Int) < (n2 : Int) := by omega
    go_wp2_with fail
    refine (awake7 w1).mono ?_
    rintro e w2 ⟨rfl, hb⟩
    go_wp2
    go_ret
    exact ⟨rfl, (I1.below hb).be⟩
  have d2 : ¬ (1000 : Int) < (n2 : Int) := by omega
  -- BEGIN
  clear d1
  cases gm : t.mayB with
  | false =>
    have y0 := I1.bx.at.c0; have y1 := I1.bx.at.c1; have y2 := I1.bx.at.c2; have y3 := I1.bx.at.c3; have y4 := I1.bx.at.c4; have y5 := I1.bx.at.c5; have y6 := I1.bx.at.c6
    go_wp2_with fail
    clear y0 y1 y2 y3 y4 y5 y6
    refine (lay_no w1 r t I1.tv ok1 gm).mono ?_
    rintro e V0 ⟨rfl, hb⟩
    have IV := I1.below hb
    clear I1 hb
    have Q := read7_any V0 A2 n2 c2 l2 IV.b2 M2 0
    have e0 : Wr.rdO l2 0 = Wr.readO true l2 0 := rdO_nat l2 0
    rw [e0] at Q
    go_wp2_with fail
    (with_reducible refine Q.mono ?_)
    clear Q e0
    cases hx : Wr.readO true l2 0 with
    | none =>
      rintro e v1 ⟨rfl, hb⟩
      have J1 := (IV.below hb).be
      have bz := Box7.new v1 zeroR
      have be1 := J1.alloc J1.size (.cells #[.int .i64 zeroR.k, .int .i64 zeroR.n, .bool zeroR.g, .slice zeroR.A zeroR.ln zeroR.lc, .int .u64 zeroR.u, .string zeroR.s, .slice zeroR.B zeroR.m zeroR.d] 28)
      clear IV hb J1
      have y0 := bz.at.c0; have y1 := bz.at.c1; have y2 := bz.at.c2; have y3 := bz.at.c3; have y4 := bz.at.c4; have y5 := bz.at.c5; have y6 := bz.at.c6
      go_wp2_with fail
      clear y0 y1 y2 y3 y4 y5 y6 bz
      generalize v1.alloc (.cells #[.int .i64 zeroR.k, .int .i64 zeroR.n, .bool zeroR.g, .slice zeroR.A zeroR.ln zeroR.lc, .int .u64 zeroR.u, .string zeroR.s, .slice zeroR.B zeroR.m zeroR.d] 28) = V1 at *
      have Q := sameTerm_eq tZero V1 zeroR zeroR TV.zero7 TV.zero7
      (with_reducible refine Q.mono ?_)
      clear Q
      rintro e v2 ⟨rfl, hb⟩
      have be2 := be1.trans (hb.mono be1.size)
      go_wp2_with fail
      refine (awake7 v2).mono ?_
      rintro e v3 ⟨rfl, hb3⟩
      go_wp2
      go_ret
      exact ⟨rfl, be2.trans (hb3.mono be2.size)⟩
    | some y =>
      obtain ⟨u, a⟩ := y
      obtain ⟨um, uok, -, -, ua, uenc⟩ := Wr.readO_some hs2 hx
      rw [List.drop_zero, Nat.sub_zero] at uenc
      have ua' : a ≤ n2 := by have := hl2.out; omega
      have ulen := Lib.hid (show (Wr.enc u).length = a by rw [uenc, List.length_take]; have := hl2.out; omega)
      have UE := Lib.hid uenc
      clear uenc ua hx
      rintro e v1 ⟨R, rfl, tv, hb⟩
      have J1 := IV.below hb
      have V := Vm.new tv.tv
      have al := (Below.refl v1.heap.size v1).alloc (Nat.le_refl _) (.cells #[.int .i64 R.k, .int .i64 R.n, .bool R.g, .slice R.A R.ln R.lc, .int .u64 R.u, .string R.s, .slice R.B R.m R.d] 28)
      have J2 := J1.below al
      clear IV hb J1 tv al
      have y0 := V.bx.at.c0; have y1 := V.bx.at.c1; have y2 := V.bx.at.c2; have y3 := V.bx.at.c3; have y4 := V.bx.at.c4; have y5 := V.bx.at.c5; have y6 := V.bx.at.c6
      go_wp2_with fail
      clear y0 y1 y2 y3 y4 y5 y6
      generalize v1.alloc (.cells #[.int .i64 R.k, .int .i64 R.n, .bool R.g, .slice R.A R.ln R.lc, .int .u64 R.u, .string R.s, .slice R.B R.m R.d] 28) = V1 at *
      have Q := lay_yes V1 R u V.tv uok um
      (with_reducible refine Q.mono ?_)
      clear Q
      rintro e v2 ⟨Ax, cx, rfl, Bx, hb⟩
      have J3 := J2.below hb
      have hB2 := J3.b2.take a ua'
      rw [ulen.out] at Bx ⊢
      have ne : (a : Int) ≤ (n2 : Int) := by omega
      have ne2 : (a : Int) ≤ (c2 : Int) := by omega
      clear V J2 hb
      go_wp2_with fail
      have Q := sameB_eq v2 Ax A2 a cx a c2 _ _ Bx.by Bx.cap' hB2 M2 UE.out
      (with_reducible refine Q.mono ?_)
      clear Q
      rintro e v3 ⟨rfl, hb⟩
      have be := (J3.below hb).be
      clear J3 hB2 Bx
      go_wp2_with fail
      refine (awake7 v3).mono ?_
      rintro e v4 ⟨rfl, hb3⟩
      go_wp2
      go_ret
      exact ⟨rfl, be.trans (hb3.mono be.size)⟩
  | true =>
    have sh := Wr.enc_short t (Wr.may_size gm).1
    have sz := (Wr.may_size gm).2
    have pos := Wr.enc_pos t
    have y0 := I1.bx.at.c0; have y1 := I1.bx.at.c1; have y2 := I1.bx.at.c2; have y3 := I1.bx.at.c3; have y4 := I1.bx.at.c4; have y5 := I1.bx.at.c5; have y6 := I1.bx.at.c6
    go_wp2_with fail
    clear y0 y1 y2 y3 y4 y5 y6
    refine (lay_yes w1 r t I1.tv ok1 gm).mono ?_
    rintro e w2 ⟨Ab, cb, rfl, Bb, hb⟩
    have I2 := I1.below hb
    clear I1 hb
    obtain ⟨nb, hnb⟩ : ∃ nb, nb = (Wr.enc t).length := ⟨_, rfl⟩
    have HNB := Lib.hid hnb
    rw [← hnb] at Bb sh pos ⊢
    clear hnb
    have nz : ((nb : Int) == 0) = false := by rw [beq_eq_false_iff_ne]; omega
    obtain ⟨X1, e1, x1, hr1, J1⟩ := (Jn.nil w2).app I2.b1 (by omega)
    obtain ⟨X2, e2, x2, hr2, J2⟩ := J1.app Bb.by (by omega)
    obtain ⟨X3, e3, x3, hr3, J3⟩ := J2.app I2.b2 (by omega)
    rw [Nat.zero_add] at hr1 hr2 hr3 J3
    have H1 := Lib.hid hr1
    have H2 := Lib.hid hr2
    have H3 := Lib.hid hr3
    have I3 := I2.below J3.be
    have BA := J3.ow.by
    have cA := J3.ow.cap'
    clear J1 J2 J3 hr1 hr2 hr3 I2 Bb
    go_upto_if 42 with fail
    go_cut [11, 12, 13, 14, 15, 16, 17] from 43 to 95 (fun _ _ _ _ _ _ _ wx => Bk w r t A1 n1 c1 l1 A2 n2 c2 l2 wx)
    case first =>
      go_upto_region 8 with (at_builtin; first | (refine wpList_append_run rfl _ _ _ rfl _ _ _ rfl rfl H1.out ?_; clear H1) | (refine wpList_append_run rfl _ _ _ rfl _ _ _ rfl rfl H2.out ?_; clear H2) | (refine wpList_append_run rfl _ _ _ rfl _ _ _ rfl rfl H3.out ?_; clear H3))
      have LB := Lib.hid (show (l1 ++ Wr.enc t ++ l2).drop n1 = Wr.enc t ++ l2 by rw [List.append_assoc, ← hl1.out, List.drop_left])
      have LL := Lib.hid (show (l1 ++ Wr.enc t ++ l2).length = n1 + nb + n2 by rw [List.length_append, List.length_append, hl1.out, hl2.out, HNB.out])
      have sB : Wr.Small (l1 ++ Wr.enc t ++ l2) := Wr.small_append.2 ⟨Wr.small_append.2 ⟨hs1, Wr.enc_small t⟩, hs2⟩
      have R1 := Wr.readO_of (S := true) (B := l1 ++ Wr.enc t ++ l2) (a := n1) (r := l2) (by have := LL.out; omega) gm hfit LB.out
      rw [← HNB.out] at R1
      obtain ⟨k, hk, hlow⟩ := low_nat z nb (by omega) (by omega)
      have R2 := Wr.readO_cut (B := l1 ++ Wr.enc t ++ l2) (a := n1) (m := n1 + k) (r := l2) sB (by have := LL.out; omega) gm hfit LB.out (by have := HNB.out; omega)
      have BA : By x3 X3 (n1 + nb + n2) e3 (l1 ++ Wr.enc t ++ l2) := by simpa using BA
      have BC := fun (W : World) (hW : Below x3.heap.size x3 W) => (BA.below hW).take (n1 + k) (by omega)
      have xc : n1 + nb + n2 ≤ e3 := BA.2.1
      have Q := read7_any x3 X3 _ e3 _ BA cA n1
      rw [rdO_nat, R1] at Q
      go_wp2_with fail
      (with_reducible refine Q.mono ?_)
      clear Q R1
      rintro e v1 ⟨R, rfl, tv, hb⟩
      have I4 := I3.below hb
      have V := Vm.new tv.tv
      have al := (Below.refl v1.heap.size v1).alloc (Nat.le_refl _) (.cells #[.int .i64 R.k, .int .i64 R.n, .bool R.g, .slice R.A R.ln R.lc, .int .u64 R.u, .string R.s, .slice R.B R.m R.d] 28)
      have I5 := I4.below al
      have BC2 := BC _ (hb.trans (al.mono hb.size))
      clear I3 I4 hb tv al BC BA
      go_wp2_with fail
      generalize v1.alloc (.cells #[.int .i64 R.k, .int .i64 R.n, .bool R.g, .slice R.A R.ln R.lc, .int .u64 R.u, .string R.s, .slice R.B R.m R.d] 28) = V1 at *
      refine (hlow V1).mono ?_
      rintro e v2 ⟨rfl, rfl⟩
      have kk : (n1 : Int) + (k : Int) ≤ (e3 : Int) := by omega
      have Q := read7_any V1 X3 (n1 + k) e3 _ BC2 cA n1
      rw [rdO_nat, R2] at Q
      clear BC2 R2 hlow
      go_wp2_with fail
      (with_reducible refine Q.mono ?_)
      clear Q
      rintro e v3 ⟨rfl, hb⟩
      have al := hb.alloc hb.size (.cells #[.int .i64 zeroR.k, .int .i64 zeroR.n, .bool zeroR.g, .slice zeroR.A zeroR.ln zeroR.lc, .int .u64 zeroR.u, .string zeroR.s, .slice zeroR.B zeroR.m zeroR.d] 28)
      have I6 := I5.below al
      have V6 := V.below al
      clear I5 V hb al
      have y0 := V6.bx.at.c0; have y1 := V6.bx.at.c1; have y2 := V6.bx.at.c2; have y3 := V6.bx.at.c3; have y4 := V6.bx.at.c4; have y5 := V6.bx.at.c5; have y6 := V6.bx.at.c6
      have x0 := I6.bx.at.c0; have x1 := I6.bx.at.c1; have x2 := I6.bx.at.c2; have x3 := I6.bx.at.c3; have x4 := I6.bx.at.c4; have x5 := I6.bx.at.c5; have x6 := I6.bx.at.c6
      go_wp2_with fail
      clear y0 y1 y2 y3 y4 y5 y6 x0 x1 x2 x3 x4 x5 x6
      generalize v3.alloc (.cells #[.int .i64 zeroR.k, .int .i64 zeroR.n, .bool zeroR.g, .slice zeroR.A zeroR.ln zeroR.lc, .int .u64 zeroR.u, .string zeroR.s, .slice zeroR.B zeroR.m zeroR.d] 28) = V3 at *
      have Q := sameTerm_eq t V3 R r V6.tv I6.tv
      (with_reducible refine Q.mono ?_)
      clear Q
      rintro e v4 ⟨rfl, hb⟩
      have I7 := I6.below hb
      clear I6 V6 hb
      go_wp2
      go_meet
      exact I7
    have IV := hcut
    clear hcut
    generalize wc = V0 at *
    have Q := read7_any V0 A2 n2 c2 l2 IV.b2 M2 0
    have e0 : Wr.rdO l2 0 = Wr.readO true l2 0 := rdO_nat l2 0
    rw [e0] at Q
    go_wp2_with fail
    (with_reducible refine Q.mono ?_)
    clear Q e0
    cases hx : Wr.readO true l2 0 with
    | none =>
      rintro e v1 ⟨rfl, hb⟩
      have J1 := (IV.below hb).be
      have bz := Box7.new v1 zeroR
      have be1 := J1.alloc J1.size (.cells #[.int .i64 zeroR.k, .int .i64 zeroR.n, .bool zeroR.g, .slice zeroR.A zeroR.ln zeroR.lc, .int .u64 zeroR.u, .string zeroR.s, .slice zeroR.B zeroR.m zeroR.d] 28)
      clear IV hb J1
      have y0 := bz.at.c0; have y1 := bz.at.c1; have y2 := bz.at.c2; have y3 := bz.at.c3; have y4 := bz.at.c4; have y5 := bz.at.c5; have y6 := bz.at.c6
      go_wp2_with fail
      clear y0 y1 y2 y3 y4 y5 y6 bz
      generalize v1.alloc (.cells #[.int .i64 zeroR.k, .int .i64 zeroR.n, .bool zeroR.g, .slice zeroR.A zeroR.ln zeroR.lc, .int .u64 zeroR.u, .string zeroR.s, .slice zeroR.B zeroR.m zeroR.d] 28) = V1 at *
      have Q := sameTerm_eq tZero V1 zeroR zeroR TV.zero7 TV.zero7
      (with_reducible refine Q.mono ?_)
      clear Q
      rintro e v2 ⟨rfl, hb⟩
      have be2 := be1.trans (hb.mono be1.size)
      go_wp2_with fail
      refine (awake7 v2).mono ?_
      rintro e v3 ⟨rfl, hb3⟩
      go_wp2
      go_ret
      exact ⟨rfl, be2.trans (hb3.mono be2.size)⟩
    | some y =>
      obtain ⟨u, a⟩ := y
      obtain ⟨um, uok, -, -, ua, uenc⟩ := Wr.readO_some hs2 hx
      rw [List.drop_zero, Nat.sub_zero] at uenc
      have ua' : a ≤ n2 := by have := hl2.out; omega
      have ulen := Lib.hid (show (Wr.enc u).length = a by rw [uenc, List.length_take]; have := hl2.out; omega)
      have UE := Lib.hid uenc
      clear uenc ua hx
      rintro e v1 ⟨R, rfl, tv, hb⟩
      have J1 := IV.below hb
      have V := Vm.new tv.tv
      have al := (Below.refl v1.heap.size v1).alloc (Nat.le_refl _) (.cells #[.int .i64 R.k, .int .i64 R.n, .bool R.g, .slice R.A R.ln R.lc, .int .u64 R.u, .string R.s, .slice R.B R.m R.d] 28)
      have J2 := J1.below al
      clear IV hb J1 tv al
      have y0 := V.bx.at.c0; have y1 := V.bx.at.c1; have y2 := V.bx.at.c2; have y3 := V.bx.at.c3; have y4 := V.bx.at.c4; have y5 := V.bx.at.c5; have y6 := V.bx.at.c6
      go_wp2_with fail
      clear y0 y1 y2 y3 y4 y5 y6
      generalize v1.alloc (.cells #[.int .i64 R.k, .int .i64 R.n, .bool R.g, .slice R.A R.ln R.lc, .int .u64 R.u, .string R.s, .slice R.B R.m R.d] 28) = V1 at *
      have Q := lay_yes V1 R u V.tv uok um
      (with_reducible refine Q.mono ?_)
      clear Q
      rintro e v2 ⟨Ax, cx, rfl, Bx, hb⟩
      have J3 := J2.below hb
      have hB2 := J3.b2.take a ua'
      rw [ulen.out] at Bx ⊢
      have ne : (a : Int) ≤ (n2 : Int) := by omega
      have ne2 : (a : Int) ≤ (c2 : Int) := by omega
      clear V J2 hb
      go_wp2_with fail
      have Q := sameB_eq v2 Ax A2 a cx a c2 _ _ Bx.by Bx.cap' hB2 M2 UE.out
      (with_reducible refine Q.mono ?_)
      clear Q
      rintro e v3 ⟨rfl, hb⟩
      have be := (J3.below hb).be
      clear J3 hB2 Bx
      go_wp2_with fail
      refine (awake7 v3).mono ?_
      rintro e v4 ⟨rfl, hb3⟩
      go_wp2
      go_ret
      exact ⟨rfl, be.trans (hb3.mono be.size)⟩
end Go.Proofs.Ytomohdfcggghoaa
