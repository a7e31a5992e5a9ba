/-
  THE LAW TermLists.
-/
import Derived.Test.YtailmmpbfajdcaaJ8
namespace Go.Proofs.Ytailmmpbfajdcaa
open Go.RowKit

/-- May all be? -/
def Tm.maysB : List Tm → Bool
  | [] => true
  | t :: r => t.mayB && Tm.maysB r
set_option maxRecDepth 100000 in
theorem Tm.maysB_append (a b : List Tm) : Tm.maysB (a ++ b) = (Tm.maysB a && Tm.maysB b) := by
  induction a with
  | nil => simp [Tm.maysB]
  | cons t r ih => simp [Tm.maysB, ih, Bool.and_assoc]
set_option maxRecDepth 100000 in
theorem Tm.maysB_take {ts : List Tm} {j : Nat} {t : Tm} (h : ts[j]? = some t) : Tm.maysB (ts.take (j + 1)) = (Tm.maysB (ts.take j) && t.mayB) := by
  rw [List.take_add_one, h, Tm.maysB_append]
  simp [Tm.maysB]
set_option maxRecDepth 100000 in
theorem listT_ok {ts : List Tm} (h : ∀ t ∈ ts, t.Ok) : (listT ts).Ok := by
  induction ts with
  | nil => exact tNil_ok
  | cons t r ih =>
    rw [listT]
    refine Tm.ok_mk.2 ⟨by simp, by simp [ByteArray.size], fun x hx => ?_⟩
    simp only [List.mem_cons, List.not_mem_nil, or_false] at hx
    rcases hx with rfl | rfl
    · exact h _ (by simp)
    · exact ih (fun x hx => h x (by simp [hx]))
set_option maxRecDepth 100000 in
theorem listT_wt (ts : List Tm) : (listT ts).wt = 1 + ts.length + Tm.wts ts := by
  induction ts with
  | nil => simp [listT, tNil, Tm.wt, Tm.wts]
  | cons t r ih =>
    rw [listT, Tm.wt]
    simp only [Tm.wts, ih, List.length_cons]
    simp
    omega
set_option maxRecDepth 100000 in
theorem listT_form (ts : List Tm) : (listT ts).formB = Tm.formsB ts := by
  induction ts with
  | nil => simp [listT, tNil, Tm.formB, Tm.formsB, Tm.alikeB, Tm.ment, Tm.boundB, Tm.kind, Tm.num, Tm.args, Tm.mag, Tm.neg, Tm.bits, Tm.bytes]
  | cons t r ih =>
    rw [listT, Tm.formB, Tm.formsB]
    simp only [Tm.formsB, ih, Bool.and_true]
    simp [Tm.alikeB, Tm.ment, Tm.boundB, Tm.kind, Tm.num, Tm.args, Tm.mag, Tm.neg, Tm.bits, Tm.bytes]
set_option maxRecDepth 100000 in
theorem maysB_eq {ts : List Tm} (h : Tm.caps ts ≤ 300) : Tm.maysB ts = Tm.formsB ts := by
  induction ts with
  | nil => rfl
  | cons t r ih =>
    simp only [Tm.caps] at h
    rw [Tm.maysB, Tm.formsB, ih (by omega), Tm.mayB, decide_eq_true (by omega), Bool.true_and]
set_option maxRecDepth 100000 in
theorem listT_may (ts : List Tm) : (listT ts).mayB = (Tm.maysB ts && decide (((1 + ts.length + Tm.caps ts : Nat) : Int) ≤ 300)) := by
  have h1 := listT_wt ts
  have h2 := caps_wts ts
  rw [Tm.mayB, listT_form, Tm.cap, h1]
  by_cases h : 1 + ts.length + Tm.caps ts ≤ 300
  · rw [decide_eq_true (by omega), decide_eq_true (by omega), maysB_eq (by omega), Bool.true_and, Bool.and_true]
  · rw [decide_eq_false (by omega), decide_eq_false (by omega), Bool.false_and, Bool.and_false]
set_option maxRecDepth 100000 in
theorem greatB_small {ts : List Tm} {most : Int} (h : greatB ts most = false) : (Tm.size.sizes ts : Int) ≤ most ∧ ∀ t ∈ ts, t.Ok := by
  have h1 := of_decide_eq_false h
  exact Tm.fine (ts := ts) (most := most) (by omega)

/-- What stands while the list is held against its terms: the variable that walks down. -/
structure TlI (w : World) (q : Nat) (R : TR) (t : Tm) (W : World) : Prop where
  bq : Box7 W q R
  tv : TVS (fun b => b < q) W R t
  be : Below w.heap.size w W
  wq : w.heap.size ≤ q
set_option maxRecDepth 100000 in
theorem TlI.below {w : World} {q : Nat} {R : TR} {t : Tm} {W W' : World} (h : TlI w q R t W) (hb : Below W.heap.size W W') : TlI w q R t W' :=
  ⟨h.bq.below hb, h.tv.keep (hb.keeps _), h.be.trans (hb.mono h.be.size), h.wq⟩
set_option maxRecDepth 100000 in
theorem TlI.put {w : World} {q : Nat} {R : TR} {t : Tm} {W : World} (h : TlI w q R t W) {R' : TR} {t' : Tm} (h' : TVS (fun b => b < q) W R' t') : TlI w q R' t' (put7 W q R') :=
  ⟨h.bq.put R', h'.keep ((Keeps.refl _ _).put7 (by simp) R'), h.be.put7 h.wq R', h.wq⟩
set_option maxRecDepth 100000 in
theorem TVS.argS {S : Nat → Prop} {w : World} {r : TR} {t : Tm} (h : TVS S w r t) : TVSs S w r.B r.m r.d t.args := by
  cases h with
  | mk _ l ks V hf hm hs on hk => exact ⟨hm, hf.md, hf.dd, on.arg, V, hs, hk⟩

set_option maxRecDepth 100000 in
theorem fourS {W v : World} {b o b' o' q : Nat} {ra rb : TR} {X Y : Option Value} (hv : Below W.heap.size W v) (hq : q < W.heap.size) (x : W.cell? ⟨q, 0, none⟩ = X) (y : W.cell? ⟨q, 6, none⟩ = Y)
    (h : At7 W b o ra) (hlt : b < W.heap.size) (h' : At7 W b' o' rb) (hlt' : b' < W.heap.size) :
    v.cell? ⟨q, 0, none⟩ = X ∧ v.cell? ⟨q, 6, none⟩ = Y ∧ v.cell? ⟨b, o, none⟩ = some (.int .i64 ra.k) ∧ v.cell? ⟨b, o + 1, none⟩ = some (.int .i64 ra.n) ∧ v.cell? ⟨b, o + 2, none⟩ = some (.bool ra.g) ∧ v.cell? ⟨b, o + 3, none⟩ = some (.slice ra.A ra.ln ra.lc) ∧ v.cell? ⟨b, o + 4, none⟩ = some (.int .u64 ra.u) ∧ v.cell? ⟨b, o + 5, none⟩ = some (.string ra.s) ∧ v.cell? ⟨b, o + 6, none⟩ = some (.slice ra.B ra.m ra.d) ∧ v.cell? ⟨b', o', none⟩ = some (.int .i64 rb.k) ∧ v.cell? ⟨b', o' + 1, none⟩ = some (.int .i64 rb.n) ∧ v.cell? ⟨b', o' + 2, none⟩ = some (.bool rb.g) ∧ v.cell? ⟨b', o' + 3, none⟩ = some (.slice rb.A rb.ln rb.lc) ∧ v.cell? ⟨b', o' + 4, none⟩ = some (.int .u64 rb.u) ∧ v.cell? ⟨b', o' + 5, none⟩ = some (.string rb.s) ∧ v.cell? ⟨b', o' + 6, none⟩ = some (.slice rb.B rb.m rb.d) :=
  ⟨(hv.cell (p := ⟨q, 0, none⟩) hq).trans x, (hv.cell (p := ⟨q, 6, none⟩) hq).trans y, seven (h.below hv hlt) (seven' (h'.below hv hlt'))⟩

set_option maxRecDepth 100000 in
set_option maxHeartbeats 8000000 in
theorem termLists_walk (w : World) (B : Option Addr) (m d : Nat) (ts : List Tm) (hts : TVs w B m d ts) :
    Calls Try.prog 4 #[.slice B m d] w fun e w' => e = .returned (.bool true) ∧ Below w.heap.size w w' := by
  have hlen := hts.len
  go_enter Try.func4, Try.ntmps4
  go_wp2_with fail
  refine (greats_any w B m d ts hts 300 (by omega) (by omega)).mono ?_
  rintro e w1 ⟨rfl, hb1⟩
  cases hg : greatB ts 300 with
  | true =>
    clear hg
    go_wp2_with fail
    refine (awake4 w1).mono ?_
    rintro e w2 ⟨rfl, hb2⟩
    go_wp2
    go_ret
    exact ⟨rfl, hb1.trans (hb2.mono hb1.size)⟩
  | false =>
    obtain ⟨hsz, hok⟩ := greatB_small hg
    have hl := Tm.sizes_len ts
    clear hg
    go_wp2_with fail
    refine (list_any w1 B m d ts (hts.below hb1) hok (by omega)).mono ?_
    rintro e w2 ⟨R, rfl, hT, hb2⟩
    have b2 := hb1.trans (hb2.mono hb1.size)
    have I : TlI w w2.heap.size R (listT ts) (w2.alloc (.cells #[.int .i64 R.k, .int .i64 R.n, .bool R.g, .slice R.A R.ln R.lc, .int .u64 R.u, .string R.s, .slice R.B R.m R.d] 30)) :=
      ⟨Box7.new w2 R, hT.tvS.keep ((Keeps.refl _ _).alloc _), b2.alloc b2.size _, b2.size⟩
    have HOK := Lib.hid hok
    have hts2 := Lib.hid hts
    have hm : m ≤ 300 := by omega
    clear hT hok
    go_wp2_with fail
    obtain ⟨q, hq⟩ : ∃ q, q = w2.heap.size := ⟨_, rfl⟩
    generalize w2.alloc (.cells #[.int .i64 R.k, .int .i64 R.n, .bool R.g, .slice R.A R.ln R.lc, .int .u64 R.u, .string R.s, .slice R.B R.m R.d] 30) = W2 at *
    rw [← hq] at I ⊢
    clear hq hts hb1 hb2 b2 hl hsz
    go_loopw [4, 5, 6] (fun n gd i w' => ∃ (j z : Nat) (gb : Bool), j ≤ m ∧ i = .int .i64 (j : Int) ∧ n = .int .i64 (z : Int) ∧ gd = .bool gb ∧ z ≤ 1 + 302 * j ∧ Hid (z = 1 + j + Tm.caps (ts.take j)) ∧ Hid (gb = Tm.maysB (ts.take j)) ∧ TlI w q R (listT ts) w') (fun _ _ i _ => m - (intOf i).toNat)
    case atStart => exact ⟨0, 1, true, Nat.zero_le _, rfl, rfl, rfl, by omega, Lib.hid (by simp [Tm.caps]), Lib.hid rfl, I⟩
    case round =>
      clear I
      obtain ⟨j, z, gb, hj, rfl, rfl, rfl, hz1, hz, hgb, J⟩ := hrel
      by_cases hjm : j < m
      · have hd1 : decide ((j : Int) < (m : Int)) = true := by rw [decide_eq_true_iff]; omega
        obtain ⟨b, o, r', t', e, hlt, h7w, het, htvw⟩ := hts2.out.get j hjm
        subst e
        have hmem := List.mem_of_getElem? het
        have hok' := HOK.out t' hmem
        have stc := Lib.hid (Tm.caps_take_succ het)
        have stm := Lib.hid (Tm.maysB_take het)
        have h7 := h7w.below J.be hlt
        have y0 := h7.c0; have y1 := h7.c1; have y2 := h7.c2; have y3 := h7.c3; have y4 := h7.c4; have y5 := h7.c5; have y6 := h7.c6
        clear h7
        go_wp2_with fail
        refine (weight_any wr r' t' (htvw.bel J.be) hok').mono ?_
        have hcap := Tm.cap_le t'
        generalize t'.cap = c at hcap stc ⊢
        rintro e w3 ⟨rfl, hb3⟩
        have J3 := J.below hb3
        clear J y0 y1 y2 y3 y4 y5 y6
        have h7 := h7w.below J3.be hlt
        have y0 := h7.c0; have y1 := h7.c1; have y2 := h7.c2; have y3 := h7.c3; have y4 := h7.c4; have y5 := h7.c5; have y6 := h7.c6
        clear h7
        cases gb with
        | false =>
          have J4 := Lib.hid J3
          clear J3
          go_wp2_with fail
          go_roundw
          case rel => exact ⟨j + 1, z + 1 + c, false, by omega, by go_num, by go_num, rfl, by omega, Lib.hid (by rw [stc.out, hz.out]; omega), Lib.hid (by rw [stm.out, ← hgb.out]; rfl), J4.out⟩
          case measure => simp [intOf]; omega
        | true =>
          go_wp2_with fail
          refine (mayTerm_any w3 r' t' (htvw.bel J3.be) hok').mono ?_
          generalize t'.mayB = mb at stm ⊢
          rintro e w4 ⟨rfl, hb4⟩
          have J4 := Lib.hid (J3.below hb4)
          clear J3 y0 y1 y2 y3 y4 y5 y6
          go_wp2_with fail
          go_roundw
          case rel => exact ⟨j + 1, z + 1 + c, mb, by omega, by go_num, by go_num, rfl, by omega, Lib.hid (by rw [stc.out, hz.out]; omega), Lib.hid (by rw [stm.out, ← hgb.out]; rfl), J4.out⟩
          case measure => simp [intOf]; omega
      · have hd1 : decide ((j : Int) < (m : Int)) = false := by rw [decide_eq_false_iff_not]; omega
        have ej : j = m := by omega
        have hzz := hz.out
        have hgg := hgb.out
        rw [List.take_of_length_le (by omega), ej, ← hlen] at hzz
        rw [List.take_of_length_le (by omega)] at hgg
        have hres := Lib.hid (show (listT ts).mayB = (gb && decide ((z : Int) ≤ 300)) by rw [listT_may, hgg, hzz])
        clear hzz hgg hz hgb ej
        have hol := listT_ok HOK.out
        go_upto_region 10 with fail
        go_cut [42] (fun c wx => c = .bool false ∧ TlI w q R (listT ts) wx)
        case first =>
          have y0 := J.bq.at.c0; have y1 := J.bq.at.c1; have y2 := J.bq.at.c2; have y3 := J.bq.at.c3; have y4 := J.bq.at.c4; have y5 := J.bq.at.c5; have y6 := J.bq.at.c6
          go_wp2_with fail
          refine (mayTerm_any wr R (listT ts) J.tv.tv hol).mono ?_
          rw [hres.out]
          rintro e w5 ⟨rfl, hb5⟩
          have J5 := Lib.hid (J.below hb5)
          clear J y0 y1 y2 y3 y4 y5 y6
          cases gb with
          | false =>
            go_wp2
            go_meet
            exact ⟨rfl, J5.out⟩
          | true =>
            cases hd : decide ((z : Int) ≤ 300) with
            | false =>
              go_wp2
              go_meet
              exact ⟨rfl, J5.out⟩
            | true =>
              go_wp2
              go_meet
              exact ⟨rfl, J5.out⟩
        obtain ⟨rfl, J5⟩ := hcut
        clear J hres hol
        go_wp2_with fail
        go_loopw [7] (fun i w' => ∃ (j : Nat) (R : TR), j ≤ m ∧ i = .int .i64 (j : Int) ∧ TlI w q R (listT (ts.drop j)) w') (fun i _ => m - (intOf i).toNat)
        case atStart => exact ⟨0, R, Nat.zero_le _, rfl, J5⟩
        case round =>
          clear J5
          obtain ⟨j, R, hj, rfl, J⟩ := hrel
          by_cases hjm : j < m
          · have hd1 : decide ((j : Int) < (m : Int)) = true := by rw [decide_eq_true_iff]; omega
            obtain ⟨b, o, r', t', e, hlt, h7w, het, htvw⟩ := hts2.out.get j hjm
            subst e
            have hst : listT (ts.drop j) = .mk 8 0 false [] 0 ⟨#[]⟩ [t', listT (ts.drop (j + 1))] := by
              rw [List.drop_eq_getElem_cons (by omega), listT]
              rw [List.getElem?_eq_getElem (by omega)] at het
              cases het
              rfl
            rw [hst] at J
            have hk : (R.k != 8) = false := by rw [← J.tv.tv.kind]; rfl
            have hm2 : R.m = 2 := by rw [← J.tv.tv.len]; rfl
            have hmm : ((R.m : Int) != 2) = false := by rw [hm2]; rfl
            have h0m : (0 : Int) < (R.m : Int) := by omega
            have h1m : (1 : Int) < (R.m : Int) := by omega
            have h0n : 0 < R.m := by omega
            have h1n : 1 < R.m := by omega
            obtain ⟨b0, o0, r0, t0, e0, hlt0, h70, het0, htv0⟩ := J.tv.argS.get 0 (by omega)
            obtain ⟨b1, o1, r1, t1, e1, hlt1, h71, het1, htv1⟩ := J.tv.argS.get 1 (by omega)
            have x0 := J.bq.at.c0
            have x6 := J.bq.at.c6
            rw [e0] at x6
            rw [e0] at e1
            cases e1
            have ht0 : t0 = t' := by simpa [Tm.args] using het0.symm
            have ht1 : t1 = listT (ts.drop (j + 1)) := by simpa [Tm.args] using het1.symm
            subst ht0 ht1
            clear hst hm2 e0 het0 het1
            rw [Nat.zero_mul, Nat.add_zero] at h70
            rw [Nat.one_mul] at h71
            have h7 := h7w.below J.be hlt
            have hltw : b < wr.heap.size := Nat.lt_of_lt_of_le hlt J.be.size
            have htv := htvw.bel J.be
            have d0 := h7.c0; have d1 := h7.c1; have d2 := h7.c2; have d3 := h7.c3; have d4 := h7.c4; have d5 := h7.c5; have d6 := h7.c6; have c0 := h70.c0; have c1 := h70.c1; have c2 := h70.c2; have c3 := h70.c3; have c4 := h70.c4; have c5 := h70.c5; have c6 := h70.c6
            have H7 := Lib.hid h7
            have H70 := Lib.hid h70
            have H71 := Lib.hid h71
            have HT := Lib.hid htv
            have HT0 := Lib.hid htv0.tv
            have HT1 := Lib.hid htv1
            have HJ := Lib.hid J
            have hql := J.bq.lt
            clear h7 h70 h71 htv htv0 htv1 J
            go_wp2_with fail
            go_region_held3 (fun w' => w'.cell? ⟨q, 0, none⟩ = some (.int .i64 R.k) ∧ w'.cell? ⟨q, 6, none⟩ = some (.slice (some ⟨b0, o0, none⟩) R.m R.d) ∧ w'.cell? ⟨b0, o0, none⟩ = some (.int .i64 r0.k) ∧ w'.cell? ⟨b0, o0 + 1, none⟩ = some (.int .i64 r0.n) ∧ w'.cell? ⟨b0, o0 + 2, none⟩ = some (.bool r0.g) ∧ w'.cell? ⟨b0, o0 + 3, none⟩ = some (.slice r0.A r0.ln r0.lc) ∧ w'.cell? ⟨b0, o0 + 4, none⟩ = some (.int .u64 r0.u) ∧ w'.cell? ⟨b0, o0 + 5, none⟩ = some (.string r0.s) ∧ w'.cell? ⟨b0, o0 + 6, none⟩ = some (.slice r0.B r0.m r0.d) ∧ w'.cell? ⟨b, o + j * 7, none⟩ = some (.int .i64 r'.k) ∧ w'.cell? ⟨b, o + j * 7 + 1, none⟩ = some (.int .i64 r'.n) ∧ w'.cell? ⟨b, o + j * 7 + 2, none⟩ = some (.bool r'.g) ∧ w'.cell? ⟨b, o + j * 7 + 3, none⟩ = some (.slice r'.A r'.ln r'.lc) ∧ w'.cell? ⟨b, o + j * 7 + 4, none⟩ = some (.int .u64 r'.u) ∧ w'.cell? ⟨b, o + j * 7 + 5, none⟩ = some (.string r'.s) ∧ w'.cell? ⟨b, o + j * 7 + 6, none⟩ = some (.slice r'.B r'.m r'.d))
              (first | exact ⟨x0, x6, c0, c1, c2, c3, c4, c5, c6, d0, d1, d2, d3, d4, d5, d6⟩ | exact KS.out)
              (first
                | (go_at_call 10; refine (sameTerm_eq t0 wr.drew r0 r' (by exact HT0.out.bel (Below.refl _ _).drew) (by exact HT.out.bel (Below.refl _ _).drew)).mono ?_; rintro e v ⟨rfl, hv⟩; have KS := Lib.hid (fourS (W := wr.drew) hv hql x0 x6 (H70.out.below (Below.refl _ _).drew hlt0) hlt0 (H7.out.below (Below.refl _ _).drew hltw) hltw); have J2 := Lib.hid ((HJ.out.below (Below.refl _ _).drew).below hv); have T1 := Lib.hid ((HT1.out.keep ((Below.refl _ _).drew.keeps _)).keep (hv.keeps _)); have G1 := Lib.hid ((H71.out.below (Below.refl _ _).drew hlt0).below hv hlt0); clear hv))
            clear d0 d1 d2 d3 d4 d5 d6 c0 c1 c2 c3 c4 c5 c6 x0 x6
            have x6 := KS.out.2.1
            have c0 := G1.out.c0; have c1 := G1.out.c1; have c2 := G1.out.c2; have c3 := G1.out.c3; have c4 := G1.out.c4; have c5 := G1.out.c5; have c6 := G1.out.c6; have y0 := J2.out.bq.at.c0; have y1 := J2.out.bq.at.c1; have y2 := J2.out.bq.at.c2; have y3 := J2.out.bq.at.c3; have y4 := J2.out.bq.at.c4; have y5 := J2.out.bq.at.c5; have y6 := J2.out.bq.at.c6; have f0 := J2.out.bq.frozen 0; have f1 := J2.out.bq.frozen 1; have f2 := J2.out.bq.frozen 2; have f3 := J2.out.bq.frozen 3; have f4 := J2.out.bq.frozen 4; have f5 := J2.out.bq.frozen 5; have f6 := J2.out.bq.frozen 6
            have J3 := Lib.hid (J2.out.put T1.out)
            clear y6
            go_wp2_with fail
            go_roundw
            case rel => exact ⟨j + 1, r1, by omega, by go_num, J3.out⟩
            case measure => simp [intOf]; omega
          · have hd1 : decide ((j : Int) < (m : Int)) = false := by rw [decide_eq_false_iff_not]; omega
            rw [List.drop_eq_nil_of_le (by omega)] at J
            have hnil : TV wr (mkR 7 0 0 ⟨#[]⟩ none 0 0) tNil := TV.leaf (by omega) (by omega) (by omega) (by omega) (by omega) (by omega) (by decide)
            have y0 := J.bq.at.c0; have y1 := J.bq.at.c1; have y2 := J.bq.at.c2; have y3 := J.bq.at.c3; have y4 := J.bq.at.c4; have y5 := J.bq.at.c5; have y6 := J.bq.at.c6
            go_wp2_with fail
            refine (sameTerm_eq tNil wr R (mkR 7 0 0 ⟨#[]⟩ none 0 0) J.tv.tv hnil).mono ?_
            rintro e w6 ⟨rfl, hb6⟩
            have J6 := J.below hb6
            clear J y0 y1 y2 y3 y4 y5 y6 hnil
            go_wp2_with fail
            refine (awake4 w6).mono ?_
            rintro e w7 ⟨rfl, hb7⟩
            have J7 := J6.below hb7
            go_wp2
            go_ret
            exact ⟨rfl, J7.be⟩
end Go.Proofs.Ytailmmpbfajdcaa
