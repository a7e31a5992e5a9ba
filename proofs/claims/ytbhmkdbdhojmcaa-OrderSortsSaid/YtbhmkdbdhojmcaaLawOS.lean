/-
  THE WALK OF OrderSorts.
-/
import Derived.Test.YtbhmkdbdhojmcaaJ14
namespace Go.Proofs.Ytbhmkdbdhojmcaa
open Go.RowKit
open Od

/-- How often a term stands among the first k. -/
noncomputable def cnt (xs : List Tm) (k : Nat) (t : Tm) : Nat := (xs.take k).countP fun x => eqT x t
set_option maxRecDepth 100000 in
theorem cnt_zero (xs : List Tm) (t : Tm) : cnt xs 0 t = 0 := by simp [cnt]
set_option maxRecDepth 100000 in
theorem cnt_succ {xs : List Tm} {k : Nat} {x : Tm} (h : xs[k]? = some x) (t : Tm) : cnt xs (k + 1) t = cnt xs k t + (if eqT x t then 1 else 0) := by
  unfold cnt
  rw [List.take_add_one, h, List.countP_append]
  cases hh : eqT x t <;> simp [hh]
set_option maxRecDepth 100000 in
theorem cnt_le (xs : List Tm) (k : Nat) (t : Tm) : cnt xs k t ≤ k := by
  unfold cnt
  refine Nat.le_trans List.countP_le_length ?_
  rw [List.length_take]
  omega
set_option maxRecDepth 100000 in
theorem cnt_perm {xs ys : List Tm} {n : Nat} (h : xs.Perm ys) (hx : xs.length = n) (hy : ys.length = n) (t : Tm) : cnt xs n t = cnt ys n t := by
  unfold cnt
  rw [List.take_of_length_le (by omega), List.take_of_length_le (by omega)]
  exact h.countP_eq _
set_option maxRecDepth 100000 in
theorem Rise.at {us : List Tm} (h : Rise us) {i j : Nat} {x y : Tm} (hi : us[i]? = some x) (hj : us[j]? = some y) (hij : i < j) : Tm.cmpT x y ≤ 0 := by
  obtain ⟨h1, e1⟩ := List.getElem?_eq_some_iff.1 hi
  obtain ⟨h2, e2⟩ := List.getElem?_eq_some_iff.1 hj
  have := List.pairwise_iff_getElem.1 h i j h1 h2 hij
  rw [e1, e2] at this
  exact this
/-- What stands behind Sort. -/
structure OsI (w : World) (B : Option Addr) (m c : Nat) (ts : List Tm) (B' : Option Addr) (c' : Nat) (us : List Tm) (W : World) : Prop where
  be : Below w.heap.size w W
  t1 : TVs W B m c ts
  t2 : TVs W B' m c' us
set_option maxRecDepth 100000 in
theorem OsI.below {w : World} {B : Option Addr} {m c : Nat} {ts : List Tm} {B' : Option Addr} {c' : Nat} {us : List Tm} {W W' : World} (h : OsI w B m c ts B' c' us W) (hb : Below W.heap.size W W') : OsI w B m c ts B' c' us W' :=
  ⟨h.be.trans (hb.mono h.be.size), h.t1.below hb, h.t2.below hb⟩
set_option maxRecDepth 100000 in
theorem OsI.drew {w : World} {B : Option Addr} {m c : Nat} {ts : List Tm} {B' : Option Addr} {c' : Nat} {us : List Tm} {W : World} (h : OsI w B m c ts B' c' us W) : OsI w B m c ts B' c' us W.drew := h.below (Below.refl _ _).drew

set_option maxRecDepth 100000 in
set_option maxHeartbeats 8000000 in
theorem orderSorts_walk (w : World) (B : Option Addr) (m c : Nat) (ts : List Tm) (hts : TVs w B m c ts) :
    Calls Try.prog 5 #[.slice B m c] w fun e w' => e = .returned (.bool true) ∧ Below w.heap.size w w' := by
  have HT := Lib.hid hts
  have hlen := hts.len
  clear hts
  go_enter Try.func5, Try.ntmps5
  go_wp2_with fail
  refine (greats_any w B m c ts HT.out 300 (by omega) (by omega)).mono ?_
  cases hg : greatB ts 300 with
  | true =>
    rintro _ w1 ⟨rfl, hb1⟩
    go_wp2_with fail
    refine (awake5 w1).mono ?_
    rintro _ w2 ⟨rfl, hb2⟩
    go_wp2
    go_ret
    exact ⟨rfl, hb1.trans (hb2.mono hb1.size)⟩
  | false =>
    have hfine := Tm.fine (ts := ts) (most := 300) (by have := of_decide_eq_false hg; omega)
    have hok := Lib.hid hfine.2
    have hsz : Tm.size.sizes ts ≤ 300 := by have := hfine.1; omega
    have hm300 : m ≤ 300 := by have := Tm.sizes_len ts; omega
    have HSZ := Lib.hid (show Tm.size.sizes ts ≤ 10000 by omega)
    clear hg hfine hsz
    rintro _ w1 ⟨rfl, hb1⟩
    go_wp2_with fail
    go_loopw [3] (fun i w' => ∃ j : Nat, j ≤ m ∧ i = .int .i64 (j : Int) ∧ Hid (∀ (x : Nat) (t : Tm), x < j → ts[x]? = some t → t.mayB = true) ∧ Below w.heap.size w w') (fun i _ => m - (intOf i).toNat)
    case atStart => exact ⟨0, Nat.zero_le _, rfl, Lib.hid (fun x t h => absurd h (by omega)), hb1⟩
    case round =>
      clear hb1
      obtain ⟨j, hj, rfl, hall, hb⟩ := hrel
      by_cases hjm : j < m
      · have hd1 : decide ((j : Int) < (m : Int)) = true := decide_eq_true (by omega)
        obtain ⟨b1, o1, r, t, e, hlt, h7, het, htv⟩ := (HT.out.below hb).get j hjm
        subst e
        have hmem := List.mem_of_getElem? het
        have y0 := h7.c0; have y1 := h7.c1; have y2 := h7.c2; have y3 := h7.c3; have y4 := h7.c4; have y5 := h7.c5; have y6 := h7.c6
        go_wp2_with fail
        refine (mayTerm_any wr r t htv (hok.out t hmem)).mono ?_
        cases hmt : t.mayB with
        | false =>
          rintro _ v ⟨rfl, hv⟩
          have hbv := hb.trans (hv.mono hb.size)
          clear y0 y1 y2 y3 y4 y5 y6 h7 htv hv
          go_wp2_with fail
          refine (sort_any v _ m c ts (HT.out.below hbv) hok.out HSZ.out).mono ?_
          rintro _ v2 ⟨us, B', m', d', rfl, hT2, hv2, hso⟩
          have hus : us = [] := hso.out.2 fun h => absurd (h t hmem) (by rw [hmt]; decide)
          have hm' : m' = 0 := by rw [← hT2.len, hus]; rfl
          have hd2 : ((m' : Int) == 0) = true := by rw [hm']; rfl
          have hb2 := hbv.trans (hv2.mono hbv.size)
          clear hm' hT2 hv2
          go_wp2_with fail
          refine (awake5 v2).mono ?_
          rintro _ v3 ⟨rfl, hv3⟩
          go_wp2
          go_ret
          exact ⟨rfl, hb2.trans (hv3.mono hb2.size)⟩
        | true =>
          have hst := Lib.hid (show ∀ (x : Nat) (t : Tm), x < j + 1 → ts[x]? = some t → t.mayB = true from fun x t' h1 h2 => by
            by_cases e : x = j
            · subst e
              rw [het] at h2
              cases h2
              exact hmt
            · exact hall.out x t' (by omega) h2)
          rintro _ v ⟨rfl, hv⟩
          clear y0 y1 y2 y3 y4 y5 y6 h7 htv
          go_wp2_with fail
          exact ⟨⟨j + 1, by omega, by go_num, hst, hb.trans (hv.mono hb.size)⟩, by simp [intOf]; omega⟩
      · have hd1 : decide ((j : Int) < (m : Int)) = false := decide_eq_false (by omega)
        have hmay : ∀ t ∈ ts, t.mayB = true := fun t ht => by
          obtain ⟨x, hx⟩ := List.getElem?_of_mem ht
          exact hall.out x t (by have := (List.getElem?_eq_some_iff.1 hx).1; omega) hx
        have HMAY := Lib.hid hmay
        clear hall hmay
        go_wp2_with fail
        refine (sort_any wr B m c ts (HT.out.below hb) hok.out HSZ.out).mono ?_
        rintro _ v ⟨us, B', m', d', rfl, hT2, hv, hso⟩
        obtain ⟨hperm, hrise⟩ := hso.out.1 HMAY.out
        have hmm : m' = m := by rw [← hT2.len, ← hlen, hperm.length_eq]
        subst hmm
        have J : OsI w B m' c ts B' d' us v := ⟨hb.trans (hv.mono hb.size), HT.out.below (hb.trans (hv.mono hb.size)), hT2.tvs⟩
        have HP := Lib.hid hperm
        have HR := Lib.hid hrise
        have hul := hT2.len
        clear hT2 hv hso hperm hrise hb
        have humay := Lib.hid (show ∀ t ∈ us, t.mayB = true from fun t ht => HMAY.out t (HP.out.mem_iff.1 ht))
        have huok := Lib.hid (show ∀ t ∈ us, t.Ok from fun t ht => hok.out t (HP.out.mem_iff.1 ht))
        have hd2 : ((m' : Int) != (m' : Int)) = false := by simp
        go_wp2_with fail
        go_loopw [5] (fun i w' => ∃ j : Nat, j ≤ m' ∧ i = .int .i64 (j : Int) ∧ OsI w B m' c ts B' d' us w') (fun i _ => m' - (intOf i).toNat)
        case atStart => exact ⟨0, Nat.zero_le _, rfl, J⟩
        case round =>
          clear J
          obtain ⟨i, hi, rfl, J⟩ := hrel
          by_cases him : i < m'
          · have hd3 : decide ((i : Int) < (m' : Int)) = true := decide_eq_true (by omega)
            obtain ⟨ti, hti⟩ : ∃ ti, us[i]? = some ti := ⟨_, List.getElem?_eq_getElem (by omega)⟩
            go_wp2_with fail
            go_loopw [6, 7] (fun x y w' => ∃ (k : Nat) (z : Int), k ≤ m' ∧ y = .int .i64 (k : Int) ∧ x = .int .i64 z ∧ -300 ≤ z ∧ z ≤ 300 ∧ Hid (z = (cnt us k ti : Int) - (cnt ts k ti : Int)) ∧ OsI w B m' c ts B' d' us w') (fun _ y _ => m' - (intOf y).toNat)
            case atStart => exact ⟨0, 0, Nat.zero_le _, rfl, rfl, by omega, by omega, Lib.hid (by rw [cnt_zero, cnt_zero]; rfl), J⟩
            case round =>
              clear J
              obtain ⟨k, z, hk, rfl, rfl, hz1, hz2, hz, J⟩ := hrel
              by_cases hkm : k < m'
              · have hd4 : decide ((k : Int) < (m' : Int)) = true := decide_eq_true (by omega)
                obtain ⟨b2, o2, rk, uk, e, hlt2, k7, huk, kv⟩ := J.t2.get k hkm
                subst e
                obtain ⟨b3, o3, ri, ti', e, hlt3, i7, hti', iv⟩ := J.t2.get i him
                cases e
                rw [hti] at hti'
                cases hti'
                obtain ⟨b1, o1, rt, tk, e, hlt1, t7, htk, tv⟩ := J.t1.get k hkm
                subst e
                have y0 := k7.c0; have y1 := k7.c1; have y2 := k7.c2; have y3 := k7.c3; have y4 := k7.c4; have y5 := k7.c5; have y6 := k7.c6; have x0 := i7.c0; have x1 := i7.c1; have x2 := i7.c2; have x3 := i7.c3; have x4 := i7.c4; have x5 := i7.c5; have x6 := i7.c6
                have HJ := Lib.hid J.drew
                have K7 := Lib.hid (k7.below (Below.refl _ _).drew hlt2)
                have I7 := Lib.hid (i7.below (Below.refl _ _).drew hlt2)
                have T7 := Lib.hid (t7.below (Below.refl _ _).drew hlt1)
                have KV := Lib.hid (kv.bel (Below.refl _ _).drew)
                have IV := Lib.hid (iv.bel (Below.refl _ _).drew)
                have TV' := Lib.hid (tv.bel (Below.refl _ _).drew)
                have c1 := Lib.hid (cnt_succ huk ti)
                have c2 := Lib.hid (cnt_succ htk ti)
                clear k7 i7 t7 kv iv tv J huk htk
                go_wp2_with fail
                go_region_held3 (fun w' => w'.cell? ⟨b2, o2 + k * 7, none⟩ = some (.int .i64 rk.k) ∧ w'.cell? ⟨b2, o2 + k * 7 + 1, none⟩ = some (.int .i64 rk.n) ∧ w'.cell? ⟨b2, o2 + k * 7 + 2, none⟩ = some (.bool rk.g) ∧ w'.cell? ⟨b2, o2 + k * 7 + 3, none⟩ = some (.slice rk.A rk.ln rk.lc) ∧ w'.cell? ⟨b2, o2 + k * 7 + 4, none⟩ = some (.int .u64 rk.u) ∧ w'.cell? ⟨b2, o2 + k * 7 + 5, none⟩ = some (.string rk.s) ∧ w'.cell? ⟨b2, o2 + k * 7 + 6, none⟩ = some (.slice rk.B rk.m rk.d) ∧ w'.cell? ⟨b2, o2 + i * 7, none⟩ = some (.int .i64 ri.k) ∧ w'.cell? ⟨b2, o2 + i * 7 + 1, none⟩ = some (.int .i64 ri.n) ∧ w'.cell? ⟨b2, o2 + i * 7 + 2, none⟩ = some (.bool ri.g) ∧ w'.cell? ⟨b2, o2 + i * 7 + 3, none⟩ = some (.slice ri.A ri.ln ri.lc) ∧ w'.cell? ⟨b2, o2 + i * 7 + 4, none⟩ = some (.int .u64 ri.u) ∧ w'.cell? ⟨b2, o2 + i * 7 + 5, none⟩ = some (.string ri.s) ∧ w'.cell? ⟨b2, o2 + i * 7 + 6, none⟩ = some (.slice ri.B ri.m ri.d))
                  (first | exact ⟨y0, y1, y2, y3, y4, y5, y6, x0, x1, x2, x3, x4, x5, x6⟩ | exact KS.out)
                  (first
                    | (go_at_call 22; refine (sameT_any uk wr.drew rk ri ti (by exact KV.out) (by exact IV.out)).mono ?_; rintro e v ⟨rfl, hv⟩; have KS := Lib.hid (twoS (W := wr.drew) hv K7.out hlt2 I7.out hlt2); have H2 := Lib.hid (HJ.out.below hv); have I72 := Lib.hid (I7.out.below hv hlt2); have T72 := Lib.hid (T7.out.below hv hlt1); have IV2 := Lib.hid (IV.out.bel hv); have TV2 := Lib.hid (TV'.out.bel hv); have hl1 := Nat.lt_of_lt_of_le hlt1 hv.size; have hl2 := Nat.lt_of_lt_of_le hlt2 hv.size; clear hv))
                clear y0 y1 y2 y3 y4 y5 y6 x0 x1 x2 x3 x4 x5 x6 KS K7 I7 T7 KV IV TV' HJ
                obtain ⟨z1, hz1'⟩ : ∃ z1 : Int, z1 = z + (if eqT uk ti then 1 else 0) := ⟨_, rfl⟩
                have HZ1 := Lib.hid hz1'
                clear hz1'
                go_upto_if 57 with (fail)
                go_cut [6] (fun x wx => x = .int .i64 z1 ∧ wx = v)
                case first =>
                  cases hf : eqT uk ti with
                  | true =>
                    have e1 := Lib.hid (show z1 = z + 1 by rw [HZ1.out, hf]; rfl)
                    go_wp2_with fail
                    go_meet
                    exact ⟨by rw [e1.out], rfl⟩
                  | false =>
                    have e1 := Lib.hid (show z1 = z by rw [HZ1.out, hf]; simp)
                    go_wp2_with fail
                    go_meet
                    exact ⟨by rw [e1.out], rfl⟩
                obtain ⟨rfl, rfl⟩ := hcut
                have hz1b : -301 ≤ z1 ∧ z1 ≤ 301 := by
                  have := HZ1.out
                  split at this <;> omega
                have HJ := Lib.hid H2.out.drew
                have I7 := Lib.hid (I72.out.below (Below.refl _ _).drew hl2)
                have T7 := Lib.hid (T72.out.below (Below.refl _ _).drew hl1)
                have IV := Lib.hid (IV2.out.bel (Below.refl _ _).drew)
                have TV' := Lib.hid (TV2.out.bel (Below.refl _ _).drew)
                obtain ⟨y0, y1, y2, y3, y4, y5, y6⟩ := seven' T72.out
                obtain ⟨x0, x1, x2, x3, x4, x5, x6⟩ := seven' I72.out
                clear I72 T72 IV2 TV2 H2
                go_upto_region 20 with fail
                go_region_held3 (fun w' => w'.cell? ⟨b1, o1 + k * 7, none⟩ = some (.int .i64 rt.k) ∧ w'.cell? ⟨b1, o1 + k * 7 + 1, none⟩ = some (.int .i64 rt.n) ∧ w'.cell? ⟨b1, o1 + k * 7 + 2, none⟩ = some (.bool rt.g) ∧ w'.cell? ⟨b1, o1 + k * 7 + 3, none⟩ = some (.slice rt.A rt.ln rt.lc) ∧ w'.cell? ⟨b1, o1 + k * 7 + 4, none⟩ = some (.int .u64 rt.u) ∧ w'.cell? ⟨b1, o1 + k * 7 + 5, none⟩ = some (.string rt.s) ∧ w'.cell? ⟨b1, o1 + k * 7 + 6, none⟩ = some (.slice rt.B rt.m rt.d) ∧ w'.cell? ⟨b2, o2 + i * 7, none⟩ = some (.int .i64 ri.k) ∧ w'.cell? ⟨b2, o2 + i * 7 + 1, none⟩ = some (.int .i64 ri.n) ∧ w'.cell? ⟨b2, o2 + i * 7 + 2, none⟩ = some (.bool ri.g) ∧ w'.cell? ⟨b2, o2 + i * 7 + 3, none⟩ = some (.slice ri.A ri.ln ri.lc) ∧ w'.cell? ⟨b2, o2 + i * 7 + 4, none⟩ = some (.int .u64 ri.u) ∧ w'.cell? ⟨b2, o2 + i * 7 + 5, none⟩ = some (.string ri.s) ∧ w'.cell? ⟨b2, o2 + i * 7 + 6, none⟩ = some (.slice ri.B ri.m ri.d))
                  (first | exact ⟨y0, y1, y2, y3, y4, y5, y6, x0, x1, x2, x3, x4, x5, x6⟩ | exact KS.out)
                  (first
                    | (go_at_call 22; refine (sameT_any tk wc.drew rt ri ti (by exact TV'.out) (by exact IV.out)).mono ?_; rintro e v2 ⟨rfl, hv⟩; have KS := Lib.hid (twoS (W := wc.drew) hv T7.out hl1 I7.out hl2); have H2 := Lib.hid (HJ.out.below hv); clear hv))
                clear y0 y1 y2 y3 y4 y5 y6 x0 x1 x2 x3 x4 x5 x6 KS I7 T7 IV TV' HJ
                have hnew := Lib.hid (show z1 - (if eqT tk ti then 1 else 0) = (cnt us (k + 1) ti : Int) - (cnt ts (k + 1) ti : Int) by
                  rw [HZ1.out, hz.out, c1.out, c2.out]
                  split <;> split <;> omega)
                have hnb : -300 ≤ z1 - (if eqT tk ti then 1 else 0) ∧ z1 - (if eqT tk ti then 1 else 0) ≤ 300 := by
                  rw [hnew.out]
                  have := cnt_le us (k + 1) ti
                  have := cnt_le ts (k + 1) ti
                  omega
                cases hf : eqT tk ti with
                | true =>
                  rw [hf] at hnew hnb
                  simp only [if_true] at hnew hnb
                  go_wp2_with fail
                  exact ⟨⟨k + 1, z1 - 1, by omega, by go_num, by go_num, hnb.1, hnb.2, hnew, H2.out⟩, by simp [intOf]; omega⟩
                | false =>
                  rw [hf] at hnew hnb
                  simp only [Bool.false_eq_true, if_false, Int.sub_zero] at hnew hnb
                  go_wp2_with fail
                  exact ⟨⟨k + 1, z1, by omega, by go_num, rfl, hnb.1, hnb.2, hnew, H2.out⟩, by simp [intOf]; omega⟩
              · have hd4 : decide ((k : Int) < (m' : Int)) = false := decide_eq_false (by omega)
                have ek : k = m' := by omega
                have hz0 : z = 0 := by
                  rw [hz.out, ek, cnt_perm HP.out hul hlen ti]
                  omega
                subst hz0
                clear hz hz1 hz2
                by_cases hi0 : 0 < i
                · have hd5 : decide ((0 : Int) < (i : Int)) = true := decide_eq_true (by omega)
                  obtain ⟨b2, o2, rp, tp, e, hlt2, p7, htp, pv⟩ := J.t2.get (i - 1) (by omega)
                  subst e
                  obtain ⟨b3, o3, ri, ti', e, hlt3, i7, hti', iv⟩ := J.t2.get i him
                  cases e
                  rw [hti] at hti'
                  cases hti'
                  have mp := List.mem_of_getElem? htp
                  have mi := List.mem_of_getElem? hti
                  have hord : Tm.ordB tp ti ≤ 0 := by
                    rw [ordB_may (humay.out tp mp) (humay.out ti mi)]
                    exact HR.out.at htp hti (by omega)
                  obtain ⟨C, hC⟩ : ∃ C, C = Tm.ordB tp ti := ⟨_, rfl⟩
                  rw [← hC] at hord
                  have HC := Lib.hid hC
                  clear hC
                  have y0 := p7.c0; have y1 := p7.c1; have y2 := p7.c2; have y3 := p7.c3; have y4 := p7.c4; have y5 := p7.c5; have y6 := p7.c6; have x0 := i7.c0; have x1 := i7.c1; have x2 := i7.c2; have x3 := i7.c3; have x4 := i7.c4; have x5 := i7.c5; have x6 := i7.c6
                  have HJ := Lib.hid J.drew
                  have P7 := Lib.hid (p7.below (Below.refl _ _).drew hlt2)
                  have I7 := Lib.hid (i7.below (Below.refl _ _).drew hlt2)
                  have PV := Lib.hid (pv.bel (Below.refl _ _).drew)
                  have IV := Lib.hid (iv.bel (Below.refl _ _).drew)
                  have e1 : IntKind.i64.wrap ((i : Int) - 1) = ((i - 1 : Nat) : Int) := by rw [IntWalk.i64_in _ (by omega)]; omega
                  have e2 : ((i - 1 : Nat) : Int) < (m' : Int) := by omega
                  have e3 : (i : Int) < (m' : Int) := by omega
                  have hno : decide (0 < C) = false := decide_eq_false (by omega)
                  clear p7 i7 pv iv J
                  go_upto_region 22 with fail
                  go_region_held3 (fun w' => w'.cell? ⟨b2, o2 + (i - 1) * 7, none⟩ = some (.int .i64 rp.k) ∧ w'.cell? ⟨b2, o2 + (i - 1) * 7 + 1, none⟩ = some (.int .i64 rp.n) ∧ w'.cell? ⟨b2, o2 + (i - 1) * 7 + 2, none⟩ = some (.bool rp.g) ∧ w'.cell? ⟨b2, o2 + (i - 1) * 7 + 3, none⟩ = some (.slice rp.A rp.ln rp.lc) ∧ w'.cell? ⟨b2, o2 + (i - 1) * 7 + 4, none⟩ = some (.int .u64 rp.u) ∧ w'.cell? ⟨b2, o2 + (i - 1) * 7 + 5, none⟩ = some (.string rp.s) ∧ w'.cell? ⟨b2, o2 + (i - 1) * 7 + 6, none⟩ = some (.slice rp.B rp.m rp.d) ∧ w'.cell? ⟨b2, o2 + i * 7, none⟩ = some (.int .i64 ri.k) ∧ w'.cell? ⟨b2, o2 + i * 7 + 1, none⟩ = some (.int .i64 ri.n) ∧ w'.cell? ⟨b2, o2 + i * 7 + 2, none⟩ = some (.bool ri.g) ∧ w'.cell? ⟨b2, o2 + i * 7 + 3, none⟩ = some (.slice ri.A ri.ln ri.lc) ∧ w'.cell? ⟨b2, o2 + i * 7 + 4, none⟩ = some (.int .u64 ri.u) ∧ w'.cell? ⟨b2, o2 + i * 7 + 5, none⟩ = some (.string ri.s) ∧ w'.cell? ⟨b2, o2 + i * 7 + 6, none⟩ = some (.slice ri.B ri.m ri.d))
                    (first | exact ⟨y0, y1, y2, y3, y4, y5, y6, x0, x1, x2, x3, x4, x5, x6⟩ | exact KS.out)
                    (first
                      | (go_at_call 12; refine (cmp_term wr.drew rp tp (by exact PV.out) (huok.out tp mp) ri ti (by exact IV.out) (huok.out ti mi)).mono ?_; rw [← HC.out]; rintro e v2 ⟨rfl, hv⟩; have KS := Lib.hid (twoS (W := wr.drew) hv P7.out hlt2 I7.out hlt2); have H2 := Lib.hid (HJ.out.below hv); clear hv))
                  clear y0 y1 y2 y3 y4 y5 y6 x0 x1 x2 x3 x4 x5 x6 KS P7 I7 PV IV HJ e1 e2 e3
                  have hno2 : ¬ 0 < C := by omega
                  have hno3 : C ≤ 0 := by omega
                  go_wp2_with fail
                  exact ⟨⟨i + 1, by omega, by go_num, H2.out⟩, by simp [intOf]; omega⟩
                · have hd5 : decide ((0 : Int) < (i : Int)) = false := decide_eq_false (by omega)
                  go_wp2_with fail
                  go_quiet (fail)
                  have J2 : OsI w B m' c ts B' d' us (wr.drewN nq) := J.below ((Below.refl _ _).drewN' _)
                  go_wp2_with fail
                  exact ⟨⟨i + 1, by omega, by go_num, J2⟩, by simp [intOf]; omega⟩
          · have hd3 : decide ((i : Int) < (m' : Int)) = false := decide_eq_false (by omega)
            have huf : ∀ t ∈ us, t.formB = true := fun t ht => Tm.may_form (humay.out t ht)
            have hur : ∀ t ∈ us, t.Rng := fun t ht => by
              obtain ⟨x, hx⟩ := List.getElem?_of_mem ht
              obtain ⟨_, _, _, t', _, _, _, ht', tv'⟩ := J.t2.get x (by have := (List.getElem?_eq_some_iff.1 hx).1; omega)
              rw [hx] at ht'
              cases ht'
              exact tv'.rng
            have ONE := Lib.hid (one_of_form huf hur)
            clear huf hur
            go_wp2_with fail
            refine (sort_any wr B' m' d' us J.t2 huok.out (by rw [sizes_perm HP.out]; exact HSZ.out)).mono ?_
            rintro _ v ⟨us2, B2, m2, d2, rfl, hT2, hv, hso⟩
            obtain ⟨hp2, hr2⟩ := hso.out.1 humay.out
            have hone : us2 = us := (HR.out.one hr2 hp2.symm ONE.out).symm
            subst hone
            have J2 := J.below hv
            have hT3 := hT2.tvs
            clear J hT2 hv hso hp2 hr2
            go_wp2_with fail
            refine (sameTs_any v B2 m2 d2 us2 hT3 B' m' d' us2 J2.t2).mono ?_
            rw [eqTs_self]
            rintro _ v2 ⟨rfl, hv2⟩
            have J3 := J2.below hv2
            clear J2 hT3 hv2
            go_wp2_with fail
            refine (awake5 v2).mono ?_
            rintro _ v3 ⟨rfl, hv3⟩
            go_wp2
            go_ret
            exact ⟨rfl, J3.be.trans (hv3.mono J3.be.size)⟩
end Go.Proofs.Ytbhmkdbdhojmcaa
