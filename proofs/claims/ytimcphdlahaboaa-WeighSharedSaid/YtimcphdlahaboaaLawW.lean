/-
  THE LAWS WeighTells, WeighGrows, WeighShared.
-/
import Derived.Test.YtimcphdlahaboaaTmG
import Derived.Deep.RegionHeld3
namespace Go.Proofs.Ytimcphdlahaboaa
open Go.RowKit

/-- What stands while WeighTells goes on. -/
structure WtI (w : World) (r : TR) (t : Tm) (B : Option Addr) (m d : Nat) (ts : List Tm) (W : World) : Prop where
  bx : Box7 W w.heap.size r
  tv : TV W r t
  tvs : TVs W B m d ts
  be : Below w.heap.size w W
theorem WtI.below {w : World} {r : TR} {t : Tm} {B : Option Addr} {m d : Nat} {ts : List Tm} {W W' : World} (h : WtI w r t B m d ts W) (hb : Below W.heap.size W W') : WtI w r t B m d ts W' :=
  ⟨h.bx.below hb, h.tv.bel hb, h.tvs.below hb, h.be.trans (hb.mono h.be.size)⟩
theorem WtI.drew {w : World} {r : TR} {t : Tm} {B : Option Addr} {m d : Nat} {ts : List Tm} {W : World} (h : WtI w r t B m d ts W) : WtI w r t B m d ts W.drew :=
  h.below (Below.refl _ _).drew

set_option maxRecDepth 100000 in
set_option maxHeartbeats 8000000 in
theorem weighTells_walk (w : World) (r : TR) (t : Tm) (htv : TV w r t) (B : Option Addr) (m d : Nat) (ts : List Tm) (hts : TVs w B m d ts) (most : Int) :
    Calls Try.prog 3 #[.agg #[.int .i64 r.k, .int .i64 r.n, .bool r.g, .slice r.A r.ln r.lc, .int .u64 r.u, .string r.s, .slice r.B r.m r.d], .slice B m d, .int .i64 most] w fun e w' => e = .returned (.bool true) ∧ Below w.heap.size w w' := by
  have hb0 := (Below.refl w.heap.size w).alloc (Nat.le_refl _) (.cells #[.int .i64 r.k, .int .i64 r.n, .bool r.g, .slice r.A r.ln r.lc, .int .u64 r.u, .string r.s, .slice r.B r.m r.d] 28)
  have I : WtI w r t B m d ts (w.alloc (.cells #[.int .i64 r.k, .int .i64 r.n, .bool r.g, .slice r.A r.ln r.lc, .int .u64 r.u, .string r.s, .slice r.B r.m r.d] 28)) := ⟨Box7.new w r, htv.bel hb0, hts.below hb0, hb0⟩
  clear htv hts hb0
  go_enter Try.func3, Try.ntmps3
  go_wp2_with fail
  generalize w.alloc (.cells #[.int .i64 r.k, .int .i64 r.n, .bool r.g, .slice r.A r.ln r.lc, .int .u64 r.u, .string r.s, .slice r.B r.m r.d] 28) = W at *
  refine (great_any W r t I.tv 600 (by omega) (by omega)).mono ?_
  rintro e w1 ⟨rfl, hb1⟩
  have I1 := I.below hb1
  clear I hb1
  generalize hg1 : greatB [t] 600 = g1
  have aw : ∀ v, WtI w r t B m d ts v → Calls Try.prog 8 #[] v fun e w' => e = .returned (.bool true) ∧ WtI w r t B m d ts w' := fun v hv =>
    (awake_tm v).mono fun e w' ⟨he, hb⟩ => ⟨he, hv.below hb⟩
  cases g1 with
  | true =>
    clear hg1
    go_wp2_with fail
    refine (aw _ I1).mono ?_
    rintro e w2 ⟨rfl, I2⟩
    go_wp2
    go_ret
    exact ⟨rfl, I2.be⟩
  | false =>
    have ok1 := (greatB_no hg1).2 t (by simp)
    clear hg1
    go_wp2_with fail
    refine (greats_any w1 B m d ts I1.tvs 600 (by omega) (by omega)).mono ?_
    rintro e w2 ⟨rfl, hb2⟩
    have I2 := I1.below hb2
    clear I1 hb2
    generalize hg1 : greatB ts 600 = g1
    cases g1 with
    | true =>
      clear hg1
      go_wp2_with fail
      refine (aw _ I2).mono ?_
      rintro e w3 ⟨rfl, I3⟩
      go_wp2
      go_ret
      exact ⟨rfl, I3.be⟩
    | false =>
      obtain ⟨hlen, oks⟩ := greatB_no hg1
      have hm : m ≤ 1000000 := by have := I2.tvs.len; omega
      clear hg1 hlen
      have I3 := I2.drew
      go_wp2_with fail
      have y := I2.bx.at
      have y0 := y.c0
      have y1 := y.c1
      have y2 := y.c2
      have y3 := y.c3
      have y4 := y.c4
      have y5 := y.c5
      have y6 := y.c6
      clear y I2
      go_region_held3 (fun w' => w'.cell? ⟨w.heap.size, 0, none⟩ = some (.int .i64 r.k) ∧ w'.cell? ⟨w.heap.size, 1, none⟩ = some (.int .i64 r.n) ∧ w'.cell? ⟨w.heap.size, 2, none⟩ = some (.bool r.g) ∧ w'.cell? ⟨w.heap.size, 3, none⟩ = some (.slice r.A r.ln r.lc) ∧ w'.cell? ⟨w.heap.size, 4, none⟩ = some (.int .u64 r.u) ∧ w'.cell? ⟨w.heap.size, 5, none⟩ = some (.string r.s) ∧ w'.cell? ⟨w.heap.size, 6, none⟩ = some (.slice r.B r.m r.d))
        (first | exact ⟨y0, y1, y2, y3, y4, y5, y6⟩ | exact ⟨I3.bx.at.c0, I3.bx.at.c1, I3.bx.at.c2, I3.bx.at.c3, I3.bx.at.c4, I3.bx.at.c5, I3.bx.at.c6⟩)
        (first
          | (go_at_call 9; have I' := I3; clear I3; refine (weight_any _ r t (by exact I'.tv) ok1).mono ?_; rintro e v ⟨rfl, hv⟩; have I3 := I'.below hv; clear I' hv)
          | (go_at_call 10; have I' := I3; clear I3; refine (refWeight_any t _ r (by exact I'.tv) ok1).mono ?_; rintro e v ⟨rfl, hv⟩; have I3 := I'.below hv; clear I' hv)
          | (go_at_call 11; have I' := I3; clear I3; refine (above_any _ B m d ts (by exact I'.tvs) oks hm most).mono ?_; rintro e v ⟨rfl, hv⟩; have I3 := I'.below hv; clear I' hv)
          | (go_at_call 12; have I' := I3; clear I3; refine (refAbove_any _ B m d ts (by exact I'.tvs) oks hm most).mono ?_; rintro e v ⟨rfl, hv⟩; have I3 := I'.below hv; clear I' hv)
          | (go_at_call 8; have I' := I3; clear I3; refine (aw _ (by exact I')).mono ?_; rintro e v ⟨rfl, I3⟩; clear I'))
      go_wp2
      go_ret
      exact ⟨rfl, I3.be⟩

/-- What stands while WeighGrows goes on. -/
structure WgI (w : World) (r r' : TR) (t t' : Tm) (W : World) : Prop where
  bx : Box7 W w.heap.size r
  bx' : Box7 W (w.heap.size + 1) r'
  tv : TV W r t
  tv' : TV W r' t'
  be : Below w.heap.size w W
section
variable {w : World} {r r' : TR} {t t' : Tm} {W W' : World}
theorem WgI.below (h : WgI w r r' t t' W) (hb : Below W.heap.size W W') : WgI w r r' t t' W' :=
  ⟨h.bx.below hb, h.bx'.below hb, h.tv.bel hb, h.tv'.bel hb, h.be.trans (hb.mono h.be.size)⟩
theorem WgI.drew (h : WgI w r r' t t' W) : WgI w r r' t t' W.drew := h.below (Below.refl _ _).drew
theorem WgI.alloc (h : WgI w r r' t t' W) (o : Obj) : WgI w r r' t t' (W.alloc o) := h.below ((Below.refl _ _).alloc (Nat.le_refl _) o)
end
/-- A pair is as heavy as both and one. -/
def pairT (k : Int) (t t' : Tm) : Tm := .mk k 0 false [] 0 ⟨#[]⟩ [t, t']
theorem pair_cap {k : Int} (t t' : Tm) (h : k = 6 ∨ k = 8) : (pairT k t t').cap = min 301 (1 + (t.cap + t'.cap)) := by
  rw [cap_node (t := pairT k t t') h]
  simp [pairT, Tm.args, Tm.caps]
theorem pair_ok {k : Int} {t t' : Tm} (h : t.Ok) (h' : t'.Ok) : (pairT k t t').Ok := by
  unfold pairT
  rw [Tm.ok_mk]
  refine ⟨by simp, by simp [ByteArray.size], fun x hx => ?_⟩
  simp at hx
  rcases hx with rfl | rfl
  · exact h
  · exact h'
theorem pair_tv {w : World} {B : Option Addr} {k : Int} {t t' : Tm} (h : TVs w B 2 2 [t, t']) (hk : k = 6 ∨ k = 8) : TV w (mkR k 0 0 ⟨#[]⟩ B 2 2) (pairT k t t') :=
  TV.node h (by omega) (by omega) (by omega) (by omega) (by omega) (by omega) (by decide)
theorem above_two (most : Int) (t t' : Tm) : aboveB most [t, t'] = decide (most < ((t.cap + t'.cap : Nat) : Int)) := by
  simp only [aboveB, Tm.caps, Nat.add_zero]
  rfl

set_option maxRecDepth 100000 in
set_option maxHeartbeats 8000000 in
theorem weighGrows_walk (w : World) (r : TR) (t : Tm) (htv : TV w r t) (r' : TR) (t' : Tm) (htv' : TV w r' t') :
    Calls Try.prog 4 #[.agg #[.int .i64 r.k, .int .i64 r.n, .bool r.g, .slice r.A r.ln r.lc, .int .u64 r.u, .string r.s, .slice r.B r.m r.d], .agg #[.int .i64 r'.k, .int .i64 r'.n, .bool r'.g, .slice r'.A r'.ln r'.lc, .int .u64 r'.u, .string r'.s, .slice r'.B r'.m r'.d]] w fun e w' => e = .returned (.bool true) ∧ Below w.heap.size w w' := by
  have hb0 := (Below.refl w.heap.size w).alloc (Nat.le_refl _) (.cells #[.int .i64 r.k, .int .i64 r.n, .bool r.g, .slice r.A r.ln r.lc, .int .u64 r.u, .string r.s, .slice r.B r.m r.d] 28)
  have hb1 := hb0.alloc (by simp) (.cells #[.int .i64 r'.k, .int .i64 r'.n, .bool r'.g, .slice r'.A r'.ln r'.lc, .int .u64 r'.u, .string r'.s, .slice r'.B r'.m r'.d] 28)
  have hb2 := (Below.refl (w.alloc (.cells #[.int .i64 r.k, .int .i64 r.n, .bool r.g, .slice r.A r.ln r.lc, .int .u64 r.u, .string r.s, .slice r.B r.m r.d] 28)).heap.size (w.alloc (.cells #[.int .i64 r.k, .int .i64 r.n, .bool r.g, .slice r.A r.ln r.lc, .int .u64 r.u, .string r.s, .slice r.B r.m r.d] 28))).alloc (Nat.le_refl _) (.cells #[.int .i64 r'.k, .int .i64 r'.n, .bool r'.g, .slice r'.A r'.ln r'.lc, .int .u64 r'.u, .string r'.s, .slice r'.B r'.m r'.d] 28)
  have I : WgI w r r' t t' ((w.alloc (.cells #[.int .i64 r.k, .int .i64 r.n, .bool r.g, .slice r.A r.ln r.lc, .int .u64 r.u, .string r.s, .slice r.B r.m r.d] 28)).alloc (.cells #[.int .i64 r'.k, .int .i64 r'.n, .bool r'.g, .slice r'.A r'.ln r'.lc, .int .u64 r'.u, .string r'.s, .slice r'.B r'.m r'.d] 28)) :=
    ⟨(Box7.new w r).below hb2, by have := Box7.new (w.alloc (.cells #[.int .i64 r.k, .int .i64 r.n, .bool r.g, .slice r.A r.ln r.lc, .int .u64 r.u, .string r.s, .slice r.B r.m r.d] 28)) r'; rw [World.size_alloc] at this; exact this, (htv.bel hb0).bel hb2, (htv'.bel hb0).bel hb2, hb1⟩
  clear htv htv' hb0 hb1 hb2
  go_enter Try.func4, Try.ntmps4
  go_wp2_with fail
  generalize (w.alloc (.cells #[.int .i64 r.k, .int .i64 r.n, .bool r.g, .slice r.A r.ln r.lc, .int .u64 r.u, .string r.s, .slice r.B r.m r.d] 28)).alloc (.cells #[.int .i64 r'.k, .int .i64 r'.n, .bool r'.g, .slice r'.A r'.ln r'.lc, .int .u64 r'.u, .string r'.s, .slice r'.B r'.m r'.d] 28) = W at *
  refine (great_any W r t I.tv 400 (by omega) (by omega)).mono ?_
  rintro e w1 ⟨rfl, hb1⟩
  have I1 := I.below hb1
  clear I hb1
  generalize hg1 : greatB [t] 400 = g1
  have aw : ∀ v, WgI w r r' t t' v → Calls Try.prog 8 #[] v fun e w' => e = .returned (.bool true) ∧ WgI w r r' t t' w' := fun v hv =>
    (awake_tm v).mono fun e w' ⟨he, hb⟩ => ⟨he, hv.below hb⟩
  generalize hN : w.heap.size + 1 = N at *
  cases g1 with
  | true =>
    clear hg1
    go_wp2_with fail
    refine (aw _ I1).mono ?_
    rintro e w2 ⟨rfl, I2⟩
    go_wp2
    go_ret
    exact ⟨rfl, I2.be⟩
  | false =>
    have ok1 := (greatB_no hg1).2 t (by simp)
    clear hg1
    have ibx' : Box7 w1 N r' := by rw [← hN]; exact I1.bx'
    have z0 := ibx'.at.c0
    have z1 := ibx'.at.c1
    have z2 := ibx'.at.c2
    have z3 := ibx'.at.c3
    have z4 := ibx'.at.c4
    have z5 := ibx'.at.c5
    have z6 := ibx'.at.c6
    go_wp2_with fail
    refine (great_any w1 r' t' I1.tv' 400 (by omega) (by omega)).mono ?_
    rintro e w2 ⟨rfl, hb2⟩
    have I2 := I1.below hb2
    clear I1 hb2 z0 z1 z2 z3 z4 z5 z6 ibx'
    generalize hg1 : greatB [t'] 400 = g1
    cases g1 with
    | true =>
      clear hg1
      go_wp2_with fail
      refine (aw _ I2).mono ?_
      rintro e w3 ⟨rfl, I3⟩
      go_wp2
      go_ret
      exact ⟨rfl, I3.be⟩
    | false =>
      have ok2 := (greatB_no hg1).2 t' (by simp)
      clear hg1
      have I3 := I2.drew
      go_wp2_with fail
      have y := I2.bx.at
      have y' : At7 w2 N 0 r' := by rw [← hN]; exact I2.bx'.at
      have y0 := y.c0
      have z0 := y'.c0
      have y1 := y.c1
      have z1 := y'.c1
      have y2 := y.c2
      have z2 := y'.c2
      have y3 := y.c3
      have z3 := y'.c3
      have y4 := y.c4
      have z4 := y'.c4
      have y5 := y.c5
      have z5 := y'.c5
      have y6 := y.c6
      have z6 := y'.c6
      clear y y' I2
      have hx := Tm.cap_le t
      have hy := Tm.cap_le t'
      go_region_held3 (fun w' => w'.cell? ⟨w.heap.size, 0, none⟩ = some (.int .i64 r.k) ∧ w'.cell? ⟨w.heap.size, 1, none⟩ = some (.int .i64 r.n) ∧ w'.cell? ⟨w.heap.size, 2, none⟩ = some (.bool r.g) ∧ w'.cell? ⟨w.heap.size, 3, none⟩ = some (.slice r.A r.ln r.lc) ∧ w'.cell? ⟨w.heap.size, 4, none⟩ = some (.int .u64 r.u) ∧ w'.cell? ⟨w.heap.size, 5, none⟩ = some (.string r.s) ∧ w'.cell? ⟨w.heap.size, 6, none⟩ = some (.slice r.B r.m r.d) ∧ w'.cell? ⟨N, 0, none⟩ = some (.int .i64 r'.k) ∧ w'.cell? ⟨N, 1, none⟩ = some (.int .i64 r'.n) ∧ w'.cell? ⟨N, 2, none⟩ = some (.bool r'.g) ∧ w'.cell? ⟨N, 3, none⟩ = some (.slice r'.A r'.ln r'.lc) ∧ w'.cell? ⟨N, 4, none⟩ = some (.int .u64 r'.u) ∧ w'.cell? ⟨N, 5, none⟩ = some (.string r'.s) ∧ w'.cell? ⟨N, 6, none⟩ = some (.slice r'.B r'.m r'.d))
        (first | exact ⟨y0, y1, y2, y3, y4, y5, y6, z0, z1, z2, z3, z4, z5, z6⟩ | exact ⟨I3.bx.at.c0, I3.bx.at.c1, I3.bx.at.c2, I3.bx.at.c3, I3.bx.at.c4, I3.bx.at.c5, I3.bx.at.c6, hN ▸ I3.bx'.at.c0, hN ▸ I3.bx'.at.c1, hN ▸ I3.bx'.at.c2, hN ▸ I3.bx'.at.c3, hN ▸ I3.bx'.at.c4, hN ▸ I3.bx'.at.c5, hN ▸ I3.bx'.at.c6⟩)
        (first
          | (go_at_call 9; have I' := I3; clear I3; refine (weight_any _ r t (by exact I'.tv) ok1).mono ?_; rintro e v ⟨rfl, hv⟩; have I3 := I'.below hv; clear I' hv)
          | (go_at_call 9; have I' := I3; clear I3; refine (weight_any _ r' t' (by exact I'.tv') ok2).mono ?_; rintro e v ⟨rfl, hv⟩; have I3 := I'.below hv; clear I' hv))
      clear y0 y1 y2 y3 y4 y5 y6 z0 z1 z2 z3 z4 z5 z6
      have ba : At7 v N 0 r' := by rw [← hN]; exact I3.bx'.at
      have ay0 := I3.bx.at.c0
      have az0 := ba.c0
      have ay1 := I3.bx.at.c1
      have az1 := ba.c1
      have ay2 := I3.bx.at.c2
      have az2 := ba.c2
      have ay3 := I3.bx.at.c3
      have az3 := ba.c3
      have ay4 := I3.bx.at.c4
      have az4 := ba.c4
      have ay5 := I3.bx.at.c5
      have az5 := ba.c5
      have ay6 := I3.bx.at.c6
      have az6 := ba.c6
      have aT := TVs.two I3.tv I3.tv'
      have aJ := I3.alloc (.cells #[.int .i64 r.k, .int .i64 r.n, .bool r.g, .slice r.A r.ln r.lc, .int .u64 r.u, .string r.s, .slice r.B r.m r.d, .int .i64 r'.k, .int .i64 r'.n, .bool r'.g, .slice r'.A r'.ln r'.lc, .int .u64 r'.u, .string r'.s, .slice r'.B r'.m r'.d] 28)
      go_wp2_with fail
      refine (weight_any _ (mkR 8 0 0 ⟨#[]⟩ (some ⟨v.heap.size, 0, none⟩) 2 2) (pairT 8 t t') (by exact pair_tv aT (.inr rfl)) (pair_ok ok1 ok2)).mono ?_
      rw [pair_cap _ _ (.inr rfl)]
      generalize hc : (min 301 (1 + (t.cap + t'.cap)) : Nat) = c
      have hcc : c = min 301 (1 + (t.cap + t'.cap)) := hc.symm
      clear hc aT
      generalize v.alloc (.cells #[.int .i64 r.k, .int .i64 r.n, .bool r.g, .slice r.A r.ln r.lc, .int .u64 r.u, .string r.s, .slice r.B r.m r.d, .int .i64 r'.k, .int .i64 r'.n, .bool r'.g, .slice r'.A r'.ln r'.lc, .int .u64 r'.u, .string r'.s, .slice r'.B r'.m r'.d] 28) = V1 at *
      generalize (some ⟨v.heap.size, 0, none⟩ : Option Addr) = B1 at *
      clear ba ay0 az0 ay1 az1 ay2 az2 ay3 az3 ay4 az4 ay5 az5 ay6 az6
      rintro e v1 ⟨rfl, hv1⟩
      have J1 := aJ.below hv1
      clear aJ hv1
      have ba : At7 v1 N 0 r' := by rw [← hN]; exact J1.bx'.at
      have ay0 := J1.bx.at.c0
      have az0 := ba.c0
      have ay1 := J1.bx.at.c1
      have az1 := ba.c1
      have ay2 := J1.bx.at.c2
      have az2 := ba.c2
      have ay3 := J1.bx.at.c3
      have az3 := ba.c3
      have ay4 := J1.bx.at.c4
      have az4 := ba.c4
      have ay5 := J1.bx.at.c5
      have az5 := ba.c5
      have ay6 := J1.bx.at.c6
      have az6 := ba.c6
      have aT := TVs.two J1.tv' J1.tv
      have aJ := J1.alloc (.cells #[.int .i64 r'.k, .int .i64 r'.n, .bool r'.g, .slice r'.A r'.ln r'.lc, .int .u64 r'.u, .string r'.s, .slice r'.B r'.m r'.d, .int .i64 r.k, .int .i64 r.n, .bool r.g, .slice r.A r.ln r.lc, .int .u64 r.u, .string r.s, .slice r.B r.m r.d] 28)
      go_wp2_with fail
      refine (weight_any _ (mkR 6 0 0 ⟨#[]⟩ (some ⟨v1.heap.size, 0, none⟩) 2 2) (pairT 6 t' t) (by exact pair_tv aT (.inl rfl)) (pair_ok ok2 ok1)).mono ?_
      rw [pair_cap _ _ (.inl rfl), show min 301 (1 + (t'.cap + t.cap)) = c by omega]
      clear aT
      generalize v1.alloc (.cells #[.int .i64 r'.k, .int .i64 r'.n, .bool r'.g, .slice r'.A r'.ln r'.lc, .int .u64 r'.u, .string r'.s, .slice r'.B r'.m r'.d, .int .i64 r.k, .int .i64 r.n, .bool r.g, .slice r.A r.ln r.lc, .int .u64 r.u, .string r.s, .slice r.B r.m r.d] 28) = V2 at *
      generalize (some ⟨v1.heap.size, 0, none⟩ : Option Addr) = B2 at *
      clear ba ay0 az0 ay1 az1 ay2 az2 ay3 az3 ay4 az4 ay5 az5 ay6 az6
      rintro e v2 ⟨rfl, hv2⟩
      have J2 := aJ.below hv2
      clear aJ hv2
      have AB1 : Hid (aboveB ((t.cap : Int) + (t'.cap : Int) - 1) [t, t'] = true) := Lib.hid (by rw [above_two, decide_eq_true_iff]; omega)
      have AB2 : Hid (aboveB ((t.cap : Int) + (t'.cap : Int)) [t, t'] = false) := Lib.hid (by rw [above_two, decide_eq_false_iff_not]; omega)
      generalize t.cap = x at *
      generalize t'.cap = y at *
      have ba : At7 v2 N 0 r' := by rw [← hN]; exact J2.bx'.at
      have ay0 := J2.bx.at.c0
      have az0 := ba.c0
      have ay1 := J2.bx.at.c1
      have az1 := ba.c1
      have ay2 := J2.bx.at.c2
      have az2 := ba.c2
      have ay3 := J2.bx.at.c3
      have az3 := ba.c3
      have ay4 := J2.bx.at.c4
      have az4 := ba.c4
      have ay5 := J2.bx.at.c5
      have az5 := ba.c5
      have ay6 := J2.bx.at.c6
      have az6 := ba.c6
      have aT := TVs.two J2.tv J2.tv'
      have aJ := J2.alloc (.cells #[.int .i64 r.k, .int .i64 r.n, .bool r.g, .slice r.A r.ln r.lc, .int .u64 r.u, .string r.s, .slice r.B r.m r.d, .int .i64 r'.k, .int .i64 r'.n, .bool r'.g, .slice r'.A r'.ln r'.lc, .int .u64 r'.u, .string r'.s, .slice r'.B r'.m r'.d] 28)
      have hor : (c : Int) = (x : Int) + (y : Int) + 1 ∧ c ≤ 301 ∨ (c = 301 ∧ 301 < (x : Int) + (y : Int) + 1) := by omega
      clear hcc
      rcases hor with ⟨hc, hc1⟩ | ⟨rfl, hc1⟩
      all_goals
        go_wp2_with fail
        refine (above_any _ _ 2 2 [t, t'] (by exact aT) (by simp [ok1, ok2]) (by omega) _).mono ?_
        rw [AB1.out]
        clear aT
        generalize v2.alloc (.cells #[.int .i64 r.k, .int .i64 r.n, .bool r.g, .slice r.A r.ln r.lc, .int .u64 r.u, .string r.s, .slice r.B r.m r.d, .int .i64 r'.k, .int .i64 r'.n, .bool r'.g, .slice r'.A r'.ln r'.lc, .int .u64 r'.u, .string r'.s, .slice r'.B r'.m r'.d] 28) = V3 at *
        generalize (some ⟨v2.heap.size, 0, none⟩ : Option Addr) = B3 at *
        clear ba ay0 ay1 ay2 ay3 ay4 ay5 ay6 az0 az1 az2 az3 az4 az5 az6
        rintro e v3 ⟨rfl, hv3⟩
        have J3 := aJ.below hv3
        clear aJ hv3
        have ba : At7 v3 N 0 r' := by rw [← hN]; exact J3.bx'.at
        have ay0 := J3.bx.at.c0
        have az0 := ba.c0
        have ay1 := J3.bx.at.c1
        have az1 := ba.c1
        have ay2 := J3.bx.at.c2
        have az2 := ba.c2
        have ay3 := J3.bx.at.c3
        have az3 := ba.c3
        have ay4 := J3.bx.at.c4
        have az4 := ba.c4
        have ay5 := J3.bx.at.c5
        have az5 := ba.c5
        have ay6 := J3.bx.at.c6
        have az6 := ba.c6
        have aT := TVs.two J3.tv J3.tv'
        have aJ := J3.alloc (.cells #[.int .i64 r.k, .int .i64 r.n, .bool r.g, .slice r.A r.ln r.lc, .int .u64 r.u, .string r.s, .slice r.B r.m r.d, .int .i64 r'.k, .int .i64 r'.n, .bool r'.g, .slice r'.A r'.ln r'.lc, .int .u64 r'.u, .string r'.s, .slice r'.B r'.m r'.d] 28)
        go_wp2_with fail
        refine (above_any _ _ 2 2 [t, t'] (by exact aT) (by simp [ok1, ok2]) (by omega) _).mono ?_
        rw [AB2.out]
        rintro e v4 ⟨rfl, hv4⟩
        have J4 := aJ.below hv4
        go_wp2_with fail
        refine (aw _ (by exact J4)).mono ?_
        rintro e v5 ⟨rfl, J5⟩
        go_wp2
        go_ret
        exact ⟨rfl, J5.be⟩
end Go.Proofs.Ytimcphdlahaboaa
