/-
  THE WALK OF OrderTells.
-/
import Derived.Test.YtmcfokeibecopaaK17
import Derived.Test.YtmcfokeibecopaaK19
import Derived.Test.YtmcfokeibecopaaK21
import Derived.Test.YtmcfokeibecopaaK22
import Derived.Deep.CutBlock
import Derived.Deep.CutRange
namespace Go.Proofs.Ytmcfokeibecopaa
open Go.RowKit
open Od

set_option maxRecDepth 100000 in
/-- What is sorted is one row alone. -/
theorem srt_one {ts us vs : List Tm} (h : SrtOf ts us) (h' : SrtOf ts vs) (hr : ∀ t ∈ us, t.Rng) : us = vs := by
  classical
  by_cases hm : ∀ t ∈ ts, t.mayB = true
  · obtain ⟨p1, r1⟩ := h.1 hm
    obtain ⟨p2, r2⟩ := h'.1 hm
    exact Rise.one r1 r2 (p1.trans p2.symm) (one_of_form (fun t ht => Tm.may_form (hm t (p1.mem_iff.1 ht))) hr)
  · rw [h.2 hm, h'.2 hm]
set_option maxRecDepth 100000 in
theorem TVs.rng {w : World} {B : Option Addr} {m d : Nat} {ts : List Tm} (h : TVs w B m d ts) : ∀ t ∈ ts, t.Rng := fun t ht => by
  obtain ⟨x, hx⟩ := List.getElem?_of_mem ht
  obtain ⟨_, _, _, t', _, _, _, ht', tv'⟩ := h.get x (by rw [← h.len]; exact (List.getElem?_eq_some_iff.1 hx).1)
  rw [hx] at ht'
  cases ht'
  exact tv'.rng
set_option maxRecDepth 100000 in
/-- An element of a row that was made. -/
theorem Sfe.elem {S : Nat → Prop} {w : World} {B : Option Addr} {m d j : Nat} (h : Sfe S w (rowR B m d)) (hj : j < m) : ∃ g r, B = some ⟨g, 0, none⟩ ∧ S g ∧ At7 w g (j * 7) r ∧ Sfe S w r := by
  cases h with
  | mk _ V _ _ _ hb hk =>
    obtain ⟨g, cs, hs, hB, _, h7⟩ := hb (Nat.lt_of_le_of_lt (Nat.zero_le _) hj)
    exact ⟨g, V j, hB, hs, h7 j hj, hk j hj⟩

/-- What stands while the law runs: two variables that hold terms, the row that came in, the row that was sorted. -/
structure OtI (w : World) (r : TR) (t : Tm) (r' : TR) (t' : Tm) (B : Option Addr) (m c : Nat) (ts : List Tm) (S : Nat → Prop) (X : Option Addr) (x d : Nat) (us : List Tm) (wb : World) (top : Nat) (W : World) : Prop where
  bx : Box7 W w.heap.size r
  ix : Box7 W (w.heap.size + 1) r'
  tv : TV W r t
  tw : TV W r' t'
  t1 : TVs W B m c ts
  t2 : TVs W X x d us
  sf : Sfe S W (rowR X x d)
  be : Below w.heap.size w W
  bb : Below wb.heap.size wb W
  tp : top ≤ W.heap.size
section
variable {w : World} {r : TR} {t : Tm} {r' : TR} {t' : Tm} {B : Option Addr} {m c : Nat} {ts : List Tm} {S : Nat → Prop} {X : Option Addr} {x d : Nat} {us : List Tm} {wb : World} {top : Nat} {W W' : World}
set_option maxRecDepth 100000 in
theorem OtI.below (h : OtI w r t r' t' B m c ts S X x d us wb top W) (hb : Below W.heap.size W W') : OtI w r t r' t' B m c ts S X x d us wb top W' :=
  ⟨h.bx.below hb, h.ix.below hb, h.tv.bel hb, h.tw.bel hb, h.t1.below hb, h.t2.below hb, h.sf.bel hb, h.be.trans (hb.mono h.be.size), h.bb.trans (hb.mono h.bb.size), Nat.le_trans h.tp hb.size⟩
set_option maxRecDepth 100000 in
theorem OtI.drew (h : OtI w r t r' t' B m c ts S X x d us wb top W) : OtI w r t r' t' B m c ts S X x d us wb top W.drew := h.below (Below.refl _ _).drew
end

set_option maxRecDepth 100000 in
set_option maxRecDepth 100000 in
set_option maxHeartbeats 8000000 in
theorem orderTells_walk (w : World) (r : TR) (t : Tm) (h : TV w r t) (r' : TR) (t' : Tm) (h' : TV w r' t') (B : Option Addr) (m c : Nat) (ts : List Tm) (hts : TVs w B m c ts) :
    Calls Try.prog 3 #[.agg #[.int .i64 r.k, .int .i64 r.n, .bool r.g, .slice r.A r.ln r.lc, .int .u64 r.u, .string r.s, .slice r.B r.m r.d], .agg #[.int .i64 r'.k, .int .i64 r'.n, .bool r'.g, .slice r'.A r'.ln r'.lc, .int .u64 r'.u, .string r'.s, .slice r'.B r'.m r'.d], .slice B m c] w fun e w' => e = .returned (.bool true) ∧ Below w.heap.size w w' := by
  have hlen := hts.len
  have I0 := SmI.new h h'
  have I : OtI w r t r' t' B m c ts (fun _ => False) none 0 0 [] w 0 ((w.alloc (.cells #[.int .i64 r.k, .int .i64 r.n, .bool r.g, .slice r.A r.ln r.lc, .int .u64 r.u, .string r.s, .slice r.B r.m r.d] 28)).alloc (.cells #[.int .i64 r'.k, .int .i64 r'.n, .bool r'.g, .slice r'.A r'.ln r'.lc, .int .u64 r'.u, .string r'.s, .slice r'.B r'.m r'.d] 28)) :=
    ⟨I0.bx, I0.ix, I0.tv, I0.tw, hts.below (I0.be), TVs.nil _ _ _ (Nat.zero_le _), Sfe.leaf rfl rfl rfl rfl, I0.be, I0.be, Nat.zero_le _⟩
  clear h h' hts I0
  have y0 := I.bx.at.c0; have y1 := I.bx.at.c1; have y2 := I.bx.at.c2; have y3 := I.bx.at.c3; have y4 := I.bx.at.c4; have y5 := I.bx.at.c5; have y6 := I.bx.at.c6
  go_enter Try.func3, Try.ntmps3
  go_wp2_with fail
  generalize (w.alloc (.cells #[.int .i64 r.k, .int .i64 r.n, .bool r.g, .slice r.A r.ln r.lc, .int .u64 r.u, .string r.s, .slice r.B r.m r.d] 28)).alloc (.cells #[.int .i64 r'.k, .int .i64 r'.n, .bool r'.g, .slice r'.A r'.ln r'.lc, .int .u64 r'.u, .string r'.s, .slice r'.B r'.m r'.d] 28) = W at *
  refine (greatT_any W r t I.tv 400 (by omega) (by omega)).mono ?_
  cases g1 : greatB [t] 400 with
  | true =>
    rintro e w1 ⟨rfl, hb1⟩
    have I1 := I.below hb1
    clear I y0 y1 y2 y3 y4 y5 y6
    go_wp2_with fail
    refine (awake5 w1).mono ?_
    rintro e z1 ⟨rfl, hz1⟩
    go_wp2
    go_ret
    exact ⟨rfl, I1.be.trans (hz1.mono I1.be.size)⟩
  | false =>
    rintro e w1 ⟨rfl, hb1⟩
    have I1 := I.below hb1
    clear I y0 y1 y2 y3 y4 y5 y6
    have ok1 := (greatB_no g1).2 t (by simp)
    have y0 := I1.ix.at.c0; have y1 := I1.ix.at.c1; have y2 := I1.ix.at.c2; have y3 := I1.ix.at.c3; have y4 := I1.ix.at.c4; have y5 := I1.ix.at.c5; have y6 := I1.ix.at.c6
    go_wp2_with fail
    refine (greatT_any w1 r' t' I1.tw 400 (by omega) (by omega)).mono ?_
    cases g2 : greatB [t'] 400 with
    | true =>
      rintro e w2 ⟨rfl, hb2⟩
      have I2 := I1.below hb2
      clear I1 y0 y1 y2 y3 y4 y5 y6
      go_wp2_with fail
      refine (awake5 w2).mono ?_
      rintro e z1 ⟨rfl, hz1⟩
      go_wp2
      go_ret
      exact ⟨rfl, I2.be.trans (hz1.mono I2.be.size)⟩
    | false =>
      rintro e w2 ⟨rfl, hb2⟩
      have I2 := I1.below hb2
      clear I1 y0 y1 y2 y3 y4 y5 y6
      have ok2 := (greatB_no g2).2 t' (by simp)
      go_wp2_with fail
      refine (greats_any w2 B m c ts I2.t1 400 (by omega) (by omega)).mono ?_
      cases g3 : greatB ts 400 with
      | true =>
        rintro e w3 ⟨rfl, hb3⟩
        have I3 := I2.below hb3
        clear I2
        go_wp2_with fail
        refine (awake5 w3).mono ?_
        rintro e z1 ⟨rfl, hz1⟩
        go_wp2
        go_ret
        exact ⟨rfl, I3.be.trans (hz1.mono I3.be.size)⟩
      | false =>
        rintro e w3 ⟨rfl, hb3⟩
        have I3 := I2.below hb3
        have hfine := Tm.fine (ts := ts) (most := 400) (by have := of_decide_eq_false g3; omega)
        have hok := Lib.hid hfine.2
        have hm400 : m ≤ 400 := by have := Tm.sizes_len ts; have := hfine.1; omega
        have HSZ := Lib.hid (show Tm.size.sizes ts ≤ 10000 by have := hfine.1; omega)
        have OK1 := Lib.hid ok1
        have OK2 := Lib.hid ok2
        clear I2 g1 g2 g3 hfine hb1 hb2 hb3 ok1 ok2
        go_wp2_with fail
        refine (sortO_any w3 B m c ts I3.t1 hok.out HSZ.out).mono ?_
        rintro _ v1 ⟨us, X, x, d, rfl, hT, hR, hv, hso⟩
        have J : OtI w r t r' t' B m c ts (fun b => w3.heap.size ≤ b ∧ b < v1.heap.size) X x d us w3 v1.heap.size v1 := by
          have K := I3.below hv
          exact ⟨K.bx, K.ix, K.tv, K.tw, K.t1, hT.tvs, hR.mono (fun b hlt h => ⟨h, hlt⟩), K.be, hv, Nat.le_refl _⟩
        have I0 := Lib.hid I3
        obtain ⟨S, hS⟩ : ∃ S : Nat → Prop, S = fun b => w3.heap.size ≤ b ∧ b < v1.heap.size := ⟨_, rfl⟩
        rw [← hS] at J
        have hS1 := Lib.hid (show ∀ b, S b → b < v1.heap.size from fun b hb => by rw [hS] at hb; exact hb.2)
        have hS0 := Lib.hid (show ∀ b, S b → w3.heap.size ≤ b from fun b hb => by rw [hS] at hb; exact hb.1)
        have hur := Lib.hid J.t2.rng
        have hul := hT.len
        clear hS hT hR hv I3
        obtain ⟨C, hC⟩ : ∃ C, C = Tm.ordB t t' := ⟨_, rfl⟩
        obtain ⟨D, hD⟩ : ∃ D, D = decide (Tm.ordB t t' < 0) := ⟨_, rfl⟩
        have HC := Lib.hid hC
        have HD := Lib.hid hD
        clear hC hD
        go_upto_region 4 with fail
        go_cut [8] (fun z wx => z = .bool true ∧ OtI w r t r' t' B m c ts S X x d us w3 v1.heap.size wx)
        case first =>
          have E := J.drew
          have y0 := J.bx.at.c0; have y1 := J.bx.at.c1; have y2 := J.bx.at.c2; have y3 := J.bx.at.c3; have y4 := J.bx.at.c4; have y5 := J.bx.at.c5; have y6 := J.bx.at.c6; have x0 := J.ix.at.c0; have x1 := J.ix.at.c1; have x2 := J.ix.at.c2; have x3 := J.ix.at.c3; have x4 := J.ix.at.c4; have x5 := J.ix.at.c5; have x6 := J.ix.at.c6
          clear J
          go_region_held3 (fun w' => w'.cell? ⟨w.heap.size, 0, none⟩ = some (.int .i64 r.k) ∧ w'.cell? ⟨w.heap.size, 1, none⟩ = some (.int .i64 r.n) ∧ w'.cell? ⟨w.heap.size, 2, none⟩ = some (.bool r.g) ∧ w'.cell? ⟨w.heap.size, 3, none⟩ = some (.slice r.A r.ln r.lc) ∧ w'.cell? ⟨w.heap.size, 4, none⟩ = some (.int .u64 r.u) ∧ w'.cell? ⟨w.heap.size, 5, none⟩ = some (.string r.s) ∧ w'.cell? ⟨w.heap.size, 6, none⟩ = some (.slice r.B r.m r.d) ∧ w'.cell? ⟨w.heap.size + 1, 0, none⟩ = some (.int .i64 r'.k) ∧ w'.cell? ⟨w.heap.size + 1, 1, none⟩ = some (.int .i64 r'.n) ∧ w'.cell? ⟨w.heap.size + 1, 2, none⟩ = some (.bool r'.g) ∧ w'.cell? ⟨w.heap.size + 1, 3, none⟩ = some (.slice r'.A r'.ln r'.lc) ∧ w'.cell? ⟨w.heap.size + 1, 4, none⟩ = some (.int .u64 r'.u) ∧ w'.cell? ⟨w.heap.size + 1, 5, none⟩ = some (.string r'.s) ∧ w'.cell? ⟨w.heap.size + 1, 6, none⟩ = some (.slice r'.B r'.m r'.d))
            (first | exact ⟨y0, y1, y2, y3, y4, y5, y6, x0, x1, x2, x3, x4, x5, x6⟩ | exact ⟨E.bx.at.c0, E.bx.at.c1, E.bx.at.c2, E.bx.at.c3, E.bx.at.c4, E.bx.at.c5, E.bx.at.c6, E.ix.at.c0, E.ix.at.c1, E.ix.at.c2, E.ix.at.c3, E.ix.at.c4, E.ix.at.c5, E.ix.at.c6⟩)
            (first
              | (go_at_call 8; have E' := E; clear E; (with_reducible refine (cmp_term _ r t (by exact E'.tv) OK1.out r' t' (by exact E'.tw) OK2.out).mono ?_); rw [← HC.out]; rintro e v ⟨rfl, hv⟩; have E := E'.below hv; clear E' hv)
              | (go_at_call 9; have E' := E; clear E; (with_reducible refine (refCmpT_any _ r t (by exact E'.tv) OK1.out r' t' (by exact E'.tw) OK2.out).mono ?_); rw [← HC.out]; rintro e v ⟨rfl, hv⟩; have E := E'.below hv; clear E' hv)
              | (go_at_call 10; have E' := E; clear E; (with_reducible refine (less_term _ r t (by exact E'.tv) OK1.out r' t' (by exact E'.tw) OK2.out).mono ?_); rw [← HD.out]; rintro e v ⟨rfl, hv⟩; have E := E'.below hv; clear E' hv)
              | (go_at_call 11; have E' := E; clear E; (with_reducible refine (refLessT_any _ r t (by exact E'.tv) OK1.out r' t' (by exact E'.tw) OK2.out).mono ?_); rw [← HD.out]; rintro e v ⟨rfl, hv⟩; have E := E'.below hv; clear E' hv)
              | (go_at_call 13; have E' := E; clear E; (with_reducible refine (refSort_any _ B m c ts (by exact E'.t1) hok.out (by omega)).mono ?_); rintro e v ⟨us2, X2, x2, d2, rfl, hT2, hv, hso2⟩; have E := E'.below hv; clear E' hv)
              | (go_at_call 12; have E' := E; clear E; have eus := srt_one hso.out hso2.out hur.out; subst eus; (with_reducible refine (sameTs_any _ X x d us (by exact E'.t2) X2 x2 d2 us (by exact hT2)).mono ?_); rw [eqTs_self]; rintro e v ⟨rfl, hv⟩; have E := E'.below hv; clear E' hv))
          go_wp2_with fail
          go_meet
          exact ⟨rfl, E⟩
        case rest =>
          clear J
          obtain ⟨rfl, J⟩ := hcut
          have hx400 : x ≤ 400 := by
            have h1 := hul
            have h2 := hso.out
            by_cases hm : ∀ t ∈ ts, t.mayB = true
            · have := (h2.1 hm).1.length_eq; omega
            · rw [h2.2 hm] at h1; simp at h1; omega
          have hx' : (x : Int) ≤ 400 := by omega
          have HS := Lib.hid J.sf
          have HJ := Lib.hid J
          clear J
          go_wp2_with fail
          go_loopw [9] (fun i w' => ∃ j : Nat, j ≤ x ∧ i = .int .i64 (j : Int) ∧ Ovr S wc w') (fun i _ => x - (intOf i).toNat)
          case atStart => exact ⟨0, Nat.zero_le _, rfl, Ovr.refl _ _⟩
          case round =>
            obtain ⟨j, hj, rfl, o⟩ := hrel
            by_cases hjx : j < x
            · have hd1 : decide ((j : Int) < (x : Int)) = true := decide_eq_true (by omega)
              obtain ⟨g, R, eX, hsg, h7, hsf⟩ := (HS.out.ovr o).elem hjx
              have HC2 := Lib.hid (overSfe_any hS1.out hsf wr (Ovr.refl _ _) (Nat.le_trans HJ.out.tp o.size))
              subst eX
              have y0 := h7.c0; have y1 := h7.c1; have y2 := h7.c2; have y3 := h7.c3; have y4 := h7.c4; have y5 := h7.c5; have y6 := h7.c6
              clear h7 hsf
              go_wp2_with fail
              refine HC2.out.mono ?_
              rintro e v ⟨rfl, hv⟩
              clear y0 y1 y2 y3 y4 y5 y6 HC2
              go_wp2_with fail
              exact ⟨⟨j + 1, by omega, by go_num, o.trans hv⟩, by simp [intOf]; omega⟩
            · have hd1 : decide ((j : Int) < (x : Int)) = false := decide_eq_false (by omega)
              have b3 : Below w3.heap.size w3 wr := HJ.out.bb.trans (o.below hS0.out HJ.out.bb.size)
              have I3 := Lib.hid (I0.out.below b3)
              clear o b3 HS HJ
              go_wp2_with fail
              refine (sortO_any wr B m c ts I3.out.t1 hok.out HSZ.out).mono ?_
              rintro _ v2 ⟨us2, X2, x2, d2, rfl, hT2, _, hv2, hso2⟩
              have I4 := Lib.hid (I3.out.below hv2)
              have HT2 := Lib.hid hT2.tvs
              clear hT2 hv2
              go_wp2_with fail
              refine (refSort_any v2 B m c ts I4.out.t1 hok.out (by omega)).mono ?_
              rintro _ v3 ⟨us3, X3, x3, d3, rfl, hT3, hv3, hso3⟩
              have e23 : us2 = us3 := srt_one hso2.out hso3.out HT2.out.rng
              subst e23
              have I5 := Lib.hid (I4.out.below hv3)
              have HT3 := Lib.hid (HT2.out.below hv3)
              clear hv3 HT2
              go_wp2_with fail
              refine (sameTs_any v3 X2 x2 d2 us2 HT3.out X3 x3 d3 us2 hT3).mono ?_
              rw [eqTs_self]
              rintro _ v4 ⟨rfl, hv4⟩
              have I6 := I5.out.below hv4
              clear hv4
              go_wp2_with fail
              refine (awake5 v4).mono ?_
              rintro _ v5 ⟨rfl, hv5⟩
              go_wp2
              go_ret
              exact ⟨rfl, I6.be.trans (hv5.mono I6.be.size)⟩
end Go.Proofs.Ytmcfokeibecopaa
