/-
  THE REFERENCE's Read.
  THE WALK OF WireReads.
-/
import Derived.Test.YtomohdfcggghoaaJ17
import Derived.Test.YtomohdfcggghoaaJ11
import Derived.Test.YtomohdfcggghoaaJ14
import Derived.Test.YtomohdfcggghoaaJ16
import Derived.Test.YtomohdfcggghoaaJ13
namespace Go.Proofs.Ytomohdfcggghoaa
open Go.RowKit

set_option maxRecDepth 100000 in
theorem readO_wo' (B : List Nat) (a : Nat) : Wr.readO false B a = (Wr.wo (Wr.dec false B 300 300 a)).map fun x => (x.1, x.2.2) := by
  unfold Wr.readO Wr.wo
  cases Wr.dec false B 300 300 a with
  | none => rfl
  | some x =>
    obtain ⟨t, q, c⟩ := x
    simp only
    split <;> rfl
/-- Term keeps its contract, with as many parts as may be. -/
def TermOk : Prop := ∀ (g : Nat) (A : Option Addr) (n c : Nat) (B : List Nat) (w : World) (z : Int), Rs w g A n c B z false ((300 : Nat) : Int) →
    Calls Try.prog 28 #[.pointer (some ⟨g, 0, none⟩)] w (RtP w g A n c B (Wr.decZ B 300 300 z))

set_option maxRecDepth 100000 in
set_option maxHeartbeats 4000000 in
theorem refRead7_any (HT : TermOk) (w : World) (A : Option Addr) (n c : Nat) (B : List Nat) (h : By w A n c B) (hc : c ≤ maxLen) (z : Int) :
    Calls Try.prog 16 #[.slice A n c, .int .i64 z] w (RdP w (Wr.rdO B z)) := by
  have hBs := h.2.2.1
  have a1 := (Below.refl w.heap.size w).alloc (Nat.le_refl _) (.cells #[.int .i64 zeroR.k, .int .i64 zeroR.n, .bool zeroR.g, .slice zeroR.A zeroR.ln zeroR.lc, .int .u64 zeroR.u, .string zeroR.s, .slice zeroR.B zeroR.m zeroR.d] 28)
  have K1 := Box7.new w zeroR
  have s1 : (w.alloc (.cells #[.int .i64 zeroR.k, .int .i64 zeroR.n, .bool zeroR.g, .slice zeroR.A zeroR.ln zeroR.lc, .int .u64 zeroR.u, .string zeroR.s, .slice zeroR.B zeroR.m zeroR.d] 28)).heap.size = w.heap.size + 1 := by simp
  have a2 := (Below.refl (w.alloc (.cells #[.int .i64 zeroR.k, .int .i64 zeroR.n, .bool zeroR.g, .slice zeroR.A zeroR.ln zeroR.lc, .int .u64 zeroR.u, .string zeroR.s, .slice zeroR.B zeroR.m zeroR.d] 28)).heap.size (w.alloc (.cells #[.int .i64 zeroR.k, .int .i64 zeroR.n, .bool zeroR.g, .slice zeroR.A zeroR.ln zeroR.lc, .int .u64 zeroR.u, .string zeroR.s, .slice zeroR.B zeroR.m zeroR.d] 28))).alloc (Nat.le_refl _) (.cells #[.slice A n c, .int .i64 z, .bool false, .int .i64 300] 57)
  have K2 := K1.below a2
  have X2 := heap_alloc_new (w.alloc (.cells #[.int .i64 zeroR.k, .int .i64 zeroR.n, .bool zeroR.g, .slice zeroR.A zeroR.ln zeroR.lc, .int .u64 zeroR.u, .string zeroR.s, .slice zeroR.B zeroR.m zeroR.d] 28)) (.cells #[.slice A n c, .int .i64 z, .bool false, .int .i64 300] 57)
  rw [s1] at X2
  have B2 := (h.below a1).below a2
  have be2 := a1.trans (a2.mono (by omega))
  have s2 : ((w.alloc (.cells #[.int .i64 zeroR.k, .int .i64 zeroR.n, .bool zeroR.g, .slice zeroR.A zeroR.ln zeroR.lc, .int .u64 zeroR.u, .string zeroR.s, .slice zeroR.B zeroR.m zeroR.d] 28)).alloc (.cells #[.slice A n c, .int .i64 z, .bool false, .int .i64 300] 57)).heap.size = w.heap.size + 2 := by simp
  have R2 : Rs ((w.alloc (.cells #[.int .i64 zeroR.k, .int .i64 zeroR.n, .bool zeroR.g, .slice zeroR.A zeroR.ln zeroR.lc, .int .u64 zeroR.u, .string zeroR.s, .slice zeroR.B zeroR.m zeroR.d] 28)).alloc (.cells #[.slice A n c, .int .i64 z, .bool false, .int .i64 300] 57)) (w.heap.size + 1) A n c B z false ((300 : Nat) : Int) := ⟨X2, B2, h.blk (by omega), hc⟩
  clear K1 a1 a2 X2 B2 s1
  go_enter Try.func16, Try.ntmps16
  go_wp2_with fail
  generalize (w.alloc (.cells #[.int .i64 zeroR.k, .int .i64 zeroR.n, .bool zeroR.g, .slice zeroR.A zeroR.ln zeroR.lc, .int .u64 zeroR.u, .string zeroR.s, .slice zeroR.B zeroR.m zeroR.d] 28)).alloc (.cells #[.slice A n c, .int .i64 z, .bool false, .int .i64 300] 57) = W at *
  have Q := HT (w.heap.size + 1) A n c B W z R2
  (with_reducible refine Q.mono ?_)
  clear Q
  have hro : Wr.rdO B z = (Wr.wo (Wr.decZ B 300 300 z)).map fun x => (x.1, x.2.2) := by
    unfold Wr.rdO Wr.decZ
    by_cases hz : z < 0
    · rw [if_pos hz, if_pos hz]; rfl
    · rw [if_neg hz, if_neg hz, Wr.readO_same hBs, readO_wo']
  have HRO := Lib.hid hro
  clear hro
  cases hx : Wr.decZ B 300 300 z with
  | none =>
    rw [hx] at HRO
    rintro e w1 ⟨R, rfl, ⟨a1, q1, r1⟩, hg⟩
    have K3 : Box7 w1 w.heap.size zeroR := blk_keep K2 hg (by omega)
    have be3 := be2.grown hg be2.size (fun b hb => by cases hb; omega)
    have s3 := hg.size
    have r4 := r1.alloc (.cells #[.int .i64 R.k, .int .i64 R.n, .bool R.g, .slice R.A R.ln R.lc, .int .u64 R.u, .string R.s, .slice R.B R.m R.d] 28)
    have K4 : Box7 (w1.alloc (.cells #[.int .i64 R.k, .int .i64 R.n, .bool R.g, .slice R.A R.ln R.lc, .int .u64 R.u, .string R.s, .slice R.B R.m R.d] 28)) w.heap.size zeroR := K3.below ((Below.refl _ _).alloc (Nat.le_refl _) _)
    have be4 := be3.alloc be3.size (.cells #[.int .i64 R.k, .int .i64 R.n, .bool R.g, .slice R.A R.ln R.lc, .int .u64 R.u, .string R.s, .slice R.B R.m R.d] 28)
    have x2 := r4.bx.c2
    have f0 := K4.frozen 0; have f1 := K4.frozen 1; have f2 := K4.frozen 2; have f3 := K4.frozen 3; have f4 := K4.frozen 4; have f5 := K4.frozen 5; have f6 := K4.frozen 6
    have y0 := K4.at.c0; have y1 := K4.at.c1; have y2 := K4.at.c2; have y3 := K4.at.c3; have y4 := K4.at.c4; have y5 := K4.at.c5; have y6 := K4.at.c6
    go_wp2
    have C := (K4.put zeroR).at
    have be5 := be4.put7 (g := w.heap.size) (Nat.le_refl _) zeroR
    clear y0 y1 y2 y3 y4 y5 y6 f0 f1 f2 f3 f4 f5 f6
    have y0 := C.c0; have y1 := C.c1; have y2 := C.c2; have y3 := C.c3; have y4 := C.c4; have y5 := C.c5; have y6 := C.c6
    clear C
    change bodyPost _ _ _ _ _ (put7 (w1.alloc (.cells #[.int .i64 R.k, .int .i64 R.n, .bool R.g, .slice R.A R.ln R.lc, .int .u64 R.u, .string R.s, .slice R.B R.m R.d] 28)) w.heap.size zeroR)
    generalize put7 (w1.alloc (.cells #[.int .i64 R.k, .int .i64 R.n, .bool R.g, .slice R.A R.ln R.lc, .int .u64 R.u, .string R.s, .slice R.B R.m R.d] 28)) w.heap.size zeroR = W9 at *
    refine bodyPost_ret (v := .tuple #[.agg #[.int .i64 zeroR.k, .int .i64 zeroR.n, .bool zeroR.g, .slice zeroR.A zeroR.ln zeroR.lc, .int .u64 zeroR.u, .string zeroR.s, .slice zeroR.B zeroR.m zeroR.d], .int .i64 0, .bool false]) (by simp [results, Try.results16, go_sem, y0, y1, y2, y3, y4, y5, y6]) rfl ?_
    show RdP w (Wr.rdO B z) _ _
    rw [HRO.out]
    exact ⟨rfl, be5⟩
  | some y =>
    obtain ⟨t, q, a1⟩ := y
    rw [hx] at HRO
    have hdec : Wr.dec false B 300 300 z.toNat = some (t, q, a1) := by
      unfold Wr.decZ at hx
      by_cases hz : z < 0
      · rw [if_pos hz] at hx; cases hx
      · rw [if_neg hz] at hx; exact hx
    have hok := (Wr.dec_back hBs _ _ _ _ _ _ hdec).2.2.2.1.1
    clear hdec hx
    rintro e w1 ⟨R, rfl, tv, r1, hg⟩
    have K3 : Box7 w1 w.heap.size zeroR := blk_keep K2 hg (by omega)
    have be3 := be2.grown hg be2.size (fun b hb => by cases hb; omega)
    have s3 := hg.size
    have r4 := r1.alloc (.cells #[.int .i64 R.k, .int .i64 R.n, .bool R.g, .slice R.A R.ln R.lc, .int .u64 R.u, .string R.s, .slice R.B R.m R.d] 28)
    have al := (Below.refl w1.heap.size w1).alloc (Nat.le_refl _) (.cells #[.int .i64 R.k, .int .i64 R.n, .bool R.g, .slice R.A R.ln R.lc, .int .u64 R.u, .string R.s, .slice R.B R.m R.d] 28)
    have K4 : Box7 (w1.alloc (.cells #[.int .i64 R.k, .int .i64 R.n, .bool R.g, .slice R.A R.ln R.lc, .int .u64 R.u, .string R.s, .slice R.B R.m R.d] 28)) w.heap.size zeroR := K3.below al
    have V4 := Box7.new w1 R
    have t4 := tv.keep ((Keeps.refl _ w1).alloc (.cells #[.int .i64 R.k, .int .i64 R.n, .bool R.g, .slice R.A R.ln R.lc, .int .u64 R.u, .string R.s, .slice R.B R.m R.d] 28))
    have be4 := be3.alloc be3.size (.cells #[.int .i64 R.k, .int .i64 R.n, .bool R.g, .slice R.A R.ln R.lc, .int .u64 R.u, .string R.s, .slice R.B R.m R.d] 28)
    clear K2 K3 be2 be3 r1 tv hg al R2
    have x2 := r4.bx.c2
    have y0 := V4.at.c0; have y1 := V4.at.c1; have y2 := V4.at.c2; have y3 := V4.at.c3; have y4 := V4.at.c4; have y5 := V4.at.c5; have y6 := V4.at.c6
    go_wp2_with fail
    clear y0 y1 y2 y3 y4 y5 y6 x2
    generalize w1.alloc (.cells #[.int .i64 R.k, .int .i64 R.n, .bool R.g, .slice R.A R.ln R.lc, .int .u64 R.u, .string R.s, .slice R.B R.m R.d] 28) = W4 at *
    generalize w1.heap.size = L at *
    have Q := refMayT_any W4 R t t4.tv hok
    (with_reducible refine Q.mono ?_)
    clear Q
    rintro e w5 ⟨rfl, hb⟩
    have K5 := K4.below hb
    have V5 := V4.below hb
    have be5' := be4.trans (hb.mono be4.size)
    have t5 := t4.keep (hb.keeps _)
    have r5 : Rs w5 (w.heap.size + 1) A n c B (a1 : Int) false (q : Int) := ⟨(hb.block _ r4.bx.lt).trans r4.bx, r4.by'.below hb, r4.av, r4.cap⟩
    clear K4 V4 be4 t4 r4 hb
    cases hm : t.mayB with
    | false =>
      have HR2 : Hid (Wr.rdO B z = none) := Lib.hid (by rw [HRO.out]; unfold Wr.wo; simp [hm])
      clear HRO
      have HRO := HR2
      have f0 := K5.frozen 0; have f1 := K5.frozen 1; have f2 := K5.frozen 2; have f3 := K5.frozen 3; have f4 := K5.frozen 4; have f5 := K5.frozen 5; have f6 := K5.frozen 6
      have y0 := K5.at.c0; have y1 := K5.at.c1; have y2 := K5.at.c2; have y3 := K5.at.c3; have y4 := K5.at.c4; have y5 := K5.at.c5; have y6 := K5.at.c6
      go_wp2
      have C := (K5.put zeroR).at
      have be5 := be5'.put7 (g := w.heap.size) (Nat.le_refl _) zeroR
      clear y0 y1 y2 y3 y4 y5 y6 f0 f1 f2 f3 f4 f5 f6
      have y0 := C.c0; have y1 := C.c1; have y2 := C.c2; have y3 := C.c3; have y4 := C.c4; have y5 := C.c5; have y6 := C.c6
      clear C
      change bodyPost _ _ _ _ _ (put7 (w5) w.heap.size zeroR)
      generalize put7 (w5) w.heap.size zeroR = W9 at *
      refine bodyPost_ret (v := .tuple #[.agg #[.int .i64 zeroR.k, .int .i64 zeroR.n, .bool zeroR.g, .slice zeroR.A zeroR.ln zeroR.lc, .int .u64 zeroR.u, .string zeroR.s, .slice zeroR.B zeroR.m zeroR.d], .int .i64 0, .bool false]) (by simp [results, Try.results16, go_sem, y0, y1, y2, y3, y4, y5, y6]) rfl ?_
      show RdP w (Wr.rdO B z) _ _
      rw [HRO.out]
      exact ⟨rfl, be5⟩
    | true =>
      have HR2 : Hid (Wr.rdO B z = some (t, a1)) := Lib.hid (by rw [HRO.out]; unfold Wr.wo; simp [hm])
      clear HRO
      have f0 := K5.frozen 0; have f1 := K5.frozen 1; have f2 := K5.frozen 2; have f3 := K5.frozen 3; have f4 := K5.frozen 4; have f5 := K5.frozen 5; have f6 := K5.frozen 6
      have y0 := K5.at.c0; have y1 := K5.at.c1; have y2 := K5.at.c2; have y3 := K5.at.c3; have y4 := K5.at.c4; have y5 := K5.at.c5; have y6 := K5.at.c6
      have x0 := V5.at.c0; have x1 := V5.at.c1; have x2 := V5.at.c2; have x3 := V5.at.c3; have x4 := V5.at.c4; have x5 := V5.at.c5; have x6 := V5.at.c6
      have z1 := r5.bx.c1
      go_upto_region 5 with fail
      go_region
      have C := ((K5.put R).drew).at
      have be6 := (be5'.put7 (g := w.heap.size) (Nat.le_refl _) R).drew
      have t6 := (t5.mono (S' := fun b => w.heap.size + 1 ≤ b) (fun b hb => by omega)).keep (((Keeps.refl _ w5).put7 (g := w.heap.size) (by omega) R).drew)
      clear y0 y1 y2 y3 y4 y5 y6 f0 f1 f2 f3 f4 f5 f6 x0 x1 x2 x3 x4 x5 x6 z1
      have y0 := C.c0; have y1 := C.c1; have y2 := C.c2; have y3 := C.c3; have y4 := C.c4; have y5 := C.c5; have y6 := C.c6
      clear C
      change Exit.then _ _ _ _ ((put7 w5 w.heap.size R).drew)
      generalize (put7 w5 w.heap.size R).drew = W9 at *
      go_wp2
      refine bodyPost_ret (v := .tuple #[.agg #[.int .i64 R.k, .int .i64 R.n, .bool R.g, .slice R.A R.ln R.lc, .int .u64 R.u, .string R.s, .slice R.B R.m R.d], .int .i64 (a1 : Int), .bool true]) (by simp [results, Try.results16, go_sem, y0, y1, y2, y3, y4, y5, y6]) rfl ?_
      show RdP w (Wr.rdO B z) _ _
      rw [HR2.out]
      exact ⟨R, rfl, t6.mono (fun b hb => by omega), be6⟩
end Go.Proofs.Ytomohdfcggghoaa

namespace Go.Proofs.Ytomohdfcggghoaa
open Go.RowKit

set_option maxRecDepth 100000 in
theorem Rb.below {w w' : World} {g N : Nat} {cs : Array Value} (h : Rb w g N cs) (hb : Below w.heap.size w w') : Rb w' g N cs := ⟨(hb.block g h.lt).trans h.1, h.2⟩
/-- A variable that holds a term, made since a world was. -/
structure Vs (w0 : World) (W : World) (g : Nat) (R : TR) (t : Tm) : Prop where
  bx : Box7 W g R
  tv : TVS (fun b => w0.heap.size ≤ b) W R t
  le : w0.heap.size ≤ g
set_option maxRecDepth 100000 in
theorem Vs.below {w0 W W' : World} {g : Nat} {R : TR} {t : Tm} (h : Vs w0 W g R t) (hb : Below W.heap.size W W') : Vs w0 W' g R t := ⟨h.bx.below hb, h.tv.keep (hb.keeps _), h.le⟩
set_option maxRecDepth 100000 in
theorem Vs.grown {w0 W W' : World} {g b : Nat} {R : TR} {t : Tm} (h : Vs w0 W g R t) (k : W.grownBy W' (some b)) (hb : b < w0.heap.size) : Vs w0 W' g R t :=
  ⟨blk_keep h.bx k (by have := h.le; omega), h.tv.keep ⟨k.size, fun i hi hl => k.block i hl (fun e => by cases e; omega)⟩, h.le⟩
def tZer : Tm := .mk 0 0 false [] 0 ⟨#[]⟩ []
set_option maxRecDepth 100000 in
theorem TVS.zer {S : Nat → Prop} {w : World} : TVS S w zeroR tZer := TVS.leaf7 (k := 0) (n := 0) (u := 0) (s := ⟨#[]⟩) (by omega) (by omega) (by omega) (by omega) (by omega) (by omega) (by decide)

set_option maxRecDepth 100000 in
set_option maxRecDepth 100000 in
set_option maxHeartbeats 8000000 in
theorem wireReads_of (HT : TermOk) (w : World) (A : Option Addr) (n c : Nat) (l : List Nat) (h : By w A n c l) (hc : c ≤ maxLen) (z : Int) :
    Calls Try.prog 4 #[.slice A n c, .int .i64 z] w fun e w' => e = .returned (.bool true) ∧ Below w.heap.size w w' := by
  have HT' := Lib.hid HT
  clear HT
  have hcc := hc
  unfold maxLen at hcc
  have hnc := h.2.1
  go_enter Try.func4, Try.ntmps4
  by_cases hn : 2000 < n
  · have d1 : (2000 : Int) < (n : Int) := by omega
    go_wp2_with fail
    refine (awake7 w).mono ?_
    rintro e w2 ⟨rfl, hb⟩
    go_wp2
    go_ret
    exact ⟨rfl, hb⟩
  have d1 : ¬ (2000 : Int) < (n : Int) := by omega
  go_wp2_with fail
  refine (bend_any w A n c l ⟨h, hc⟩ (by omega)).mono ?_
  rintro e w1 ⟨g, rfl, hL, hgw, hb1, cs, hR⟩
  have h1 := h.below hb1
  have glt := hR.lt
  have Q := read7_any w1 _ n (n + 3) l (hL.raw (by omega)).1 (hL.raw (by omega)).2 z
  go_wp2_with fail
  (with_reducible refine Q.mono ?_)
  clear Q
  cases hx : Wr.rdO l z with
  | none =>
    rintro e w2 ⟨rfl, hb2⟩
    have V2 : Vs w1 (w2.alloc (.cells #[.int .i64 zeroR.k, .int .i64 zeroR.n, .bool zeroR.g, .slice zeroR.A zeroR.ln zeroR.lc, .int .u64 zeroR.u, .string zeroR.s, .slice zeroR.B zeroR.m zeroR.d] 28)) w2.heap.size zeroR tZer := ⟨Box7.new w2 zeroR, (TVS.zer (S := fun b => w1.heap.size ≤ b)).keep ((Keeps.refl _ w2).alloc _), hb2.size⟩
    have al := (Below.refl w2.heap.size w2).alloc (Nat.le_refl _) (.cells #[.int .i64 zeroR.k, .int .i64 zeroR.n, .bool zeroR.g, .slice zeroR.A zeroR.ln zeroR.lc, .int .u64 zeroR.u, .string zeroR.s, .slice zeroR.B zeroR.m zeroR.d] 28)
    have hb2' := hb2.trans (al.mono hb2.size)
    have L2 := hL.below hb2'
    have R2' := hR.below hb2'
    have B2 := h1.below hb2'
    have be2 := hb1.trans (hb2'.mono hb1.size)
    clear hL hR h1 hb1 hb2 hb2' al
    have Q := refRead7_any HT'.out (w2.alloc (.cells #[.int .i64 zeroR.k, .int .i64 zeroR.n, .bool zeroR.g, .slice zeroR.A zeroR.ln zeroR.lc, .int .u64 zeroR.u, .string zeroR.s, .slice zeroR.B zeroR.m zeroR.d] 28)) A n c l B2 hc z
    rw [hx] at Q
    go_wp2_with fail
    (with_reducible refine Q.mono ?_)
    clear Q
    generalize w2.alloc (.cells #[.int .i64 zeroR.k, .int .i64 zeroR.n, .bool zeroR.g, .slice zeroR.A zeroR.ln zeroR.lc, .int .u64 zeroR.u, .string zeroR.s, .slice zeroR.B zeroR.m zeroR.d] 28) = W2 at *
    generalize w2.heap.size = p1 at *
    rintro e w3 ⟨rfl, hb3⟩
    have V3 : Vs w1 (w3.alloc (.cells #[.int .i64 zeroR.k, .int .i64 zeroR.n, .bool zeroR.g, .slice zeroR.A zeroR.ln zeroR.lc, .int .u64 zeroR.u, .string zeroR.s, .slice zeroR.B zeroR.m zeroR.d] 28)) w3.heap.size zeroR tZer := ⟨Box7.new w3 zeroR, (TVS.mono (TVS.zer (S := fun b => w1.heap.size ≤ b)) (fun b hb => hb)).keep ((Keeps.refl _ w3).alloc _), by have := V2.le; have := V2.bx.lt; have := hb3.size; omega⟩
    have al := (Below.refl w3.heap.size w3).alloc (Nat.le_refl _) (.cells #[.int .i64 zeroR.k, .int .i64 zeroR.n, .bool zeroR.g, .slice zeroR.A zeroR.ln zeroR.lc, .int .u64 zeroR.u, .string zeroR.s, .slice zeroR.B zeroR.m zeroR.d] 28)
    have hb3' := hb3.trans (al.mono hb3.size)
    have V2' := V2.below hb3'
    have L3 := L2.below hb3'
    have R3 := R2'.below hb3'
    have B3 := B2.below hb3'
    have be3 := be2.trans (hb3'.mono be2.size)
    clear V2 L2 R2' B2 be2 hb3 hb3' al
    go_wp2_with fail
    generalize w3.alloc (.cells #[.int .i64 zeroR.k, .int .i64 zeroR.n, .bool zeroR.g, .slice zeroR.A zeroR.ln zeroR.lc, .int .u64 zeroR.u, .string zeroR.s, .slice zeroR.B zeroR.m zeroR.d] 28) = W3 at *
    generalize w3.heap.size = p2 at *
    refine (keptB_any W3 g n l A c L3 (by omega) ⟨B3, hc⟩).mono ?_
    rintro e w4 ⟨rfl, hb4⟩
    have V4a := V2'.below hb4
    have V4b := V3.below hb4
    have R4 := R3.below hb4
    have be4 := be3.trans (hb4.mono be3.size)
    clear V2' V3 L3 R3 B3 be3 hb4
    go_wp2_with fail
    refine (overB_some w4 g n (n + 3) cs R4 (by omega) (by unfold maxLen; omega) (by omega)).mono ?_
    rintro e w5 ⟨rfl, hg5⟩
    have V5a := V4a.grown hg5 glt
    have V5b := V4b.grown hg5 glt
    have be5 := be4.grown hg5 be4.size (fun b hb => by cases hb; omega)
    clear V4a V4b R4 be4 hg5
    have y0 := V5a.bx.at.c0; have y1 := V5a.bx.at.c1; have y2 := V5a.bx.at.c2; have y3 := V5a.bx.at.c3; have y4 := V5a.bx.at.c4; have y5 := V5a.bx.at.c5; have y6 := V5a.bx.at.c6
    have x0 := V5b.bx.at.c0; have x1 := V5b.bx.at.c1; have x2 := V5b.bx.at.c2; have x3 := V5b.bx.at.c3; have x4 := V5b.bx.at.c4; have x5 := V5b.bx.at.c5; have x6 := V5b.bx.at.c6
    go_wp2_with fail
    clear y0 y1 y2 y3 y4 y5 y6 x0 x1 x2 x3 x4 x5 x6
    have Q := sameTerm_eq tZer w5 zeroR zeroR V5a.tv.tv V5b.tv.tv
    (with_reducible refine Q.mono ?_)
    clear Q
    rintro e w6 ⟨rfl, hb6⟩
    have be6 := be5.trans (hb6.mono be5.size)
    clear V5a V5b be5 hb6
    go_wp2_with fail
    refine (awake7 w6).mono ?_
    rintro e w7 ⟨rfl, hb⟩
    go_wp2
    go_ret
    exact ⟨rfl, be6.trans (hb.mono be6.size)⟩
  | some y =>
    obtain ⟨t, a⟩ := y
    rintro e w2 ⟨R1, rfl, tv, hb2⟩
    have V2 : Vs w1 (w2.alloc (.cells #[.int .i64 R1.k, .int .i64 R1.n, .bool R1.g, .slice R1.A R1.ln R1.lc, .int .u64 R1.u, .string R1.s, .slice R1.B R1.m R1.d] 28)) w2.heap.size R1 t := ⟨Box7.new w2 R1, (tv).keep ((Keeps.refl _ w2).alloc _), hb2.size⟩
    have al := (Below.refl w2.heap.size w2).alloc (Nat.le_refl _) (.cells #[.int .i64 R1.k, .int .i64 R1.n, .bool R1.g, .slice R1.A R1.ln R1.lc, .int .u64 R1.u, .string R1.s, .slice R1.B R1.m R1.d] 28)
    have hb2' := hb2.trans (al.mono hb2.size)
    have L2 := hL.below hb2'
    have R2' := hR.below hb2'
    have B2 := h1.below hb2'
    have be2 := hb1.trans (hb2'.mono hb1.size)
    clear hL hR h1 hb1 hb2 hb2' al
    have Q := refRead7_any HT'.out (w2.alloc (.cells #[.int .i64 R1.k, .int .i64 R1.n, .bool R1.g, .slice R1.A R1.ln R1.lc, .int .u64 R1.u, .string R1.s, .slice R1.B R1.m R1.d] 28)) A n c l B2 hc z
    rw [hx] at Q
    go_wp2_with fail
    (with_reducible refine Q.mono ?_)
    clear Q
    generalize w2.alloc (.cells #[.int .i64 R1.k, .int .i64 R1.n, .bool R1.g, .slice R1.A R1.ln R1.lc, .int .u64 R1.u, .string R1.s, .slice R1.B R1.m R1.d] 28) = W2 at *
    generalize w2.heap.size = p1 at *
    rintro e w3 ⟨R2, rfl, tu, hb3⟩
    have V3 : Vs w1 (w3.alloc (.cells #[.int .i64 R2.k, .int .i64 R2.n, .bool R2.g, .slice R2.A R2.ln R2.lc, .int .u64 R2.u, .string R2.s, .slice R2.B R2.m R2.d] 28)) w3.heap.size R2 t := ⟨Box7.new w3 R2, (TVS.mono (tu) (fun b hb => by have := V2.bx.lt; have := V2.le; omega)).keep ((Keeps.refl _ w3).alloc _), by have := V2.le; have := V2.bx.lt; have := hb3.size; omega⟩
    have al := (Below.refl w3.heap.size w3).alloc (Nat.le_refl _) (.cells #[.int .i64 R2.k, .int .i64 R2.n, .bool R2.g, .slice R2.A R2.ln R2.lc, .int .u64 R2.u, .string R2.s, .slice R2.B R2.m R2.d] 28)
    have hb3' := hb3.trans (al.mono hb3.size)
    have V2' := V2.below hb3'
    have L3 := L2.below hb3'
    have R3 := R2'.below hb3'
    have B3 := B2.below hb3'
    have be3 := be2.trans (hb3'.mono be2.size)
    clear V2 L2 R2' B2 be2 hb3 hb3' al
    go_wp2_with fail
    generalize w3.alloc (.cells #[.int .i64 R2.k, .int .i64 R2.n, .bool R2.g, .slice R2.A R2.ln R2.lc, .int .u64 R2.u, .string R2.s, .slice R2.B R2.m R2.d] 28) = W3 at *
    generalize w3.heap.size = p2 at *
    refine (keptB_any W3 g n l A c L3 (by omega) ⟨B3, hc⟩).mono ?_
    rintro e w4 ⟨rfl, hb4⟩
    have V4a := V2'.below hb4
    have V4b := V3.below hb4
    have R4 := R3.below hb4
    have be4 := be3.trans (hb4.mono be3.size)
    clear V2' V3 L3 R3 B3 be3 hb4
    go_wp2_with fail
    refine (overB_some w4 g n (n + 3) cs R4 (by omega) (by unfold maxLen; omega) (by omega)).mono ?_
    rintro e w5 ⟨rfl, hg5⟩
    have V5a := V4a.grown hg5 glt
    have V5b := V4b.grown hg5 glt
    have be5 := be4.grown hg5 be4.size (fun b hb => by cases hb; omega)
    clear V4a V4b R4 be4 hg5
    have y0 := V5a.bx.at.c0; have y1 := V5a.bx.at.c1; have y2 := V5a.bx.at.c2; have y3 := V5a.bx.at.c3; have y4 := V5a.bx.at.c4; have y5 := V5a.bx.at.c5; have y6 := V5a.bx.at.c6
    have x0 := V5b.bx.at.c0; have x1 := V5b.bx.at.c1; have x2 := V5b.bx.at.c2; have x3 := V5b.bx.at.c3; have x4 := V5b.bx.at.c4; have x5 := V5b.bx.at.c5; have x6 := V5b.bx.at.c6
    go_wp2_with fail
    clear y0 y1 y2 y3 y4 y5 y6 x0 x1 x2 x3 x4 x5 x6
    have Q := sameTerm_eq t w5 R1 R2 V5a.tv.tv V5b.tv.tv
    (with_reducible refine Q.mono ?_)
    clear Q
    rintro e w6 ⟨rfl, hb6⟩
    have be6 := be5.trans (hb6.mono be5.size)
    clear V5a V5b be5 hb6
    go_wp2_with fail
    refine (awake7 w6).mono ?_
    rintro e w7 ⟨rfl, hb⟩
    go_wp2
    go_ret
    exact ⟨rfl, be6.trans (hb.mono be6.size)⟩
end Go.Proofs.Ytomohdfcggghoaa
