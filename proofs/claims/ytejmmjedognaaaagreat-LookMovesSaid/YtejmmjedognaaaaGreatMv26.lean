/-
  COPIES: beehivelaw0.CopyTerm, CopyTerms.
  PACKAGE term: copied, OfNum, Int, Atom.
  PACKAGE look: big, isBig.
-/
import Derived.Test.YtejmmjedognaaaaGreatMv25
namespace Go.Proofs.YtejmmjedognaaaaGreat
open Go.RowKit

/-- What a call leaves that copies a term, or terms. -/
def CpT (w : World) (t : Tm) (e : Ending) (w' : World) : Prop := ∃ R : TR, e = .returned (.agg #[.int .i64 R.k, .int .i64 R.n, .bool R.g, .slice R.A R.ln R.lc, .int .u64 R.u, .string R.s, .slice R.B R.m R.d]) ∧ TVS (fun b => w.heap.size ≤ b) w' R t ∧ Below w.heap.size w w'
def CpTs (w : World) (ts : List Tm) (e : Ending) (w' : World) : Prop := ∃ B m d, e = .returned (.slice B m d) ∧ TVSs (fun b => w.heap.size ≤ b) w' B m d ts ∧ Below w.heap.size w w'

set_option maxRecDepth 100000 in
theorem Tm.size_kid {t x : Tm} (h : x ∈ t.args) : x.size ≤ t.size := by
  have : ∀ ks : List Tm, x ∈ ks → x.size ≤ Tm.size.sizes ks := by
    intro ks
    induction ks with
    | nil => intro h; cases h
    | cons a r ih =>
      intro h
      rw [Tm.size.sizes]
      rcases List.mem_cons.1 h with rfl | h
      · omega
      · have := ih h; omega
  cases t with
  | mk k n g l u s ks => have := this ks h; rw [Tm.size]; omega
set_option maxRecDepth 100000 in
theorem Tm.size_args (t : Tm) : t.args.length ≤ t.size := by
  cases t with
  | mk k n g l u s ks => have := Tm.sizes_len ks; rw [Tm.size]; exact Nat.le_trans this (by omega)

set_option maxRecDepth 100000 in
/-- The limbs, or the arguments, of a variable are written over. -/
theorem Box7.set3 {w : World} {g : Nat} {r : TR} (h : Box7 w g r) (A : Option Addr) (n c : Nat) : Box7 (w.setCell ⟨g, 3, none⟩ (.slice A n c)) g ⟨r.k, r.n, r.g, A, n, c, r.u, r.s, r.B, r.m, r.d⟩ := by
  unfold Box7 at h ⊢
  simp [World.setCell, Array.getElem?_modify, h]
set_option maxRecDepth 100000 in
theorem Box7.set6 {w : World} {g : Nat} {r : TR} (h : Box7 w g r) (B : Option Addr) (n c : Nat) : Box7 (w.setCell ⟨g, 6, none⟩ (.slice B n c)) g ⟨r.k, r.n, r.g, r.A, r.ln, r.lc, r.u, r.s, B, n, c⟩ := by
  unfold Box7 at h ⊢
  simp [World.setCell, Array.getElem?_modify, h]
set_option maxRecDepth 100000 in
theorem Box7.setO {w : World} {g g' : Nat} {r : TR} (h : Box7 w g r) (hn : g' ≠ g) (i : Nat) (v : Value) : Box7 (w.setCell ⟨g', i, none⟩ v) g r := by
  unfold Box7 at h ⊢
  simp [World.setCell, Array.getElem?_modify, h, hn]

end Go.Proofs.YtejmmjedognaaaaGreat

namespace Go.Proofs.YtejmmjedognaaaaGreat
open Go.RowKit

/-- What 'copied' leaves. -/
def CpN (w : World) (g : Bool) (n : Nat) (l : List Nat) (e : Ending) (w' : World) : Prop :=
  ∃ A c, e = .returned (.agg #[.bool g, .slice A n c]) ∧ Own w' w.heap.size A n c l ∧ Below w.heap.size w w'

set_option maxRecDepth 100000 in
theorem Own.setO {w : World} {base n c : Nat} {A : Option Addr} {l : List Nat} (h : Own w base A n c l) {p : Addr} (hp : p.block < base) (v : Value) : Own (w.setCell p v) base A n c l := by
  refine ⟨h.1, h.2.1, h.2.2.1, ?_⟩
  rcases h.2.2.2 with h0 | ⟨g, cap, cur, hv, hbg, hg, rest⟩
  · exact .inl h0
  · exact .inr ⟨g, cap, cur, hv, hbg, (Below.heap_setCell w p v g (by omega)).trans hg, rest⟩

/-- The term of an integer. -/
def ofT (g : Bool) (l : List Nat) : Tm := if smOk g l then .mk 1 (smZ g l) false [] 0 ⟨#[]⟩ [] else if mayB g l then .mk 2 0 g l 0 ⟨#[]⟩ [] else .mk 0 0 false [] 0 ⟨#[]⟩ []
/-- What OfNum leaves. -/
def OfP (w : World) (g : Bool) (l : List Nat) (e : Ending) (w' : World) : Prop :=
  ∃ R : TR, e = .returned (.tuple #[.agg #[.int .i64 R.k, .int .i64 R.n, .bool R.g, .slice R.A R.ln R.lc, .int .u64 R.u, .string R.s, .slice R.B R.m R.d], .bool (mayB g l)]) ∧ TV w' R (ofT g l) ∧ Own w' w.heap.size R.A R.ln R.lc (ofT g l).mag ∧ R.m = 0 ∧ Below w.heap.size w w'
set_option maxRecDepth 100000 in
theorem smZ_bd {g : Bool} {l : List Nat} (h : smOk g l = true) : -9223372036854775808 ≤ smZ g l ∧ smZ g l ≤ 9223372036854775807 := by
  unfold smZ
  unfold smOk at h
  rw [if_pos h]
  simp only [smallB, Bool.and_eq_true, decide_eq_true_eq] at h
  omega
set_option maxRecDepth 100000 in
theorem TV.int {w : World} {z : Int} (h0 : -9223372036854775808 ≤ z) (h1 : z ≤ 9223372036854775807) : TV w ⟨1, z, false, none, 0, 0, 0, ⟨#[]⟩, none, 0, 0⟩ (.mk 1 z false [] 0 ⟨#[]⟩ []) :=
  TV.mk' (by omega) (by omega) h0 h1 (by omega) (by omega) (Lim.nil _ _ _) (Nat.zero_le _) (Nat.zero_le _) (TVs.nil _ _ _ (Nat.zero_le _))
set_option maxRecDepth 100000 in
theorem TV.zero {w : World} : TV w zeroR (.mk 0 0 false [] 0 ⟨#[]⟩ []) :=
  TV.mk' (by omega) (by omega) (by omega) (by omega) (by omega) (by omega) (Lim.nil _ _ _) (Nat.zero_le _) (Nat.zero_le _) (TVs.nil _ _ _ (Nat.zero_le _))
set_option maxRecDepth 100000 in
theorem TV.big {w : World} {g : Bool} {A : Option Addr} {n c : Nat} {l : List Nat} (h : Lim w A n c l) (hc : c ≤ maxLen) : TV w ⟨2, 0, g, A, n, c, 0, ⟨#[]⟩, none, 0, 0⟩ (.mk 2 0 g l 0 ⟨#[]⟩ []) :=
  TV.mk' (by omega) (by omega) (by omega) (by omega) (by omega) (by omega) h hc (Nat.zero_le _) (TVs.nil _ _ _ (Nat.zero_le _))

end Go.Proofs.YtejmmjedognaaaaGreat

namespace Go.Proofs.YtejmmjedognaaaaGreat
open Go.RowKit
open St

set_option maxRecDepth 100000 in
theorem bgl_app (a b : List Int) : bgl (a ++ b) = bgl a ++ bgl b := by
  induction a with
  | nil => rfl
  | cons x a ih => simp [bgl, ih]
set_option maxRecDepth 100000 in
theorem bgl_take {zs : List Int} {i : Nat} (h : i < zs.length) : bgl (zs.take (i + 1)) = bgl (zs.take i) ++ [(zs.getD i 0 % 4294967296).toNat, (zs.getD i 0 / 4294967296).toNat] := by
  rw [take_gd h, bgl_app]
  rfl
/-- What big answers. -/
def BgP (w : World) (t : Tm) (e : Ending) (w' : World) : Prop :=
  ∃ R : TR, e = .returned (.agg #[.int .i64 R.k, .int .i64 R.n, .bool R.g, .slice R.A R.ln R.lc, .int .u64 R.u, .string R.s, .slice R.B R.m R.d]) ∧ TV w' R t ∧ Own w' w.heap.size R.A R.ln R.lc t.mag ∧ R.m = 0 ∧ Below w.heap.size w w'

set_option maxRecDepth 100000 in
theorem own_p7 {w : World} {base n c g : Nat} {A : Option Addr} {l : List Nat} (h : Own w base A n c l) (hg : g < base) (R : TR) : Own (put7 w g R) base A n c l :=
  ((((((h.setO (p := ⟨g, 0, none⟩) hg _).setO (p := ⟨g, 1, none⟩) hg _).setO (p := ⟨g, 2, none⟩) hg _).setO (p := ⟨g, 3, none⟩) hg _).setO (p := ⟨g, 4, none⟩) hg _).setO (p := ⟨g, 5, none⟩) hg _).setO (p := ⟨g, 6, none⟩) hg _

set_option maxRecDepth 100000 in
set_option maxRecDepth 100000 in
set_option maxHeartbeats 8000000 in
theorem big_any {w : World} {A : Option Addr} {m c k : Nat} {ws : List Int} (h : Zs .u64 w A m c ws) (hk : m = k + 1) (hk1 : 1 ≤ k) (hm : m ≤ 100) :
    Calls Tryz.prog 86 #[.slice A m c] w (BgP w (bgT ws)) := by
  obtain ⟨wa, hwa⟩ : ∃ wa, wa = w.alloc (.cells #[.int .i64 zeroR.k, .int .i64 zeroR.n, .bool zeroR.g, .slice zeroR.A zeroR.ln zeroR.lc, .int .u64 zeroR.u, .string zeroR.s, .slice zeroR.B zeroR.m zeroR.d] 40) := ⟨_, rfl⟩
  have hba : Below w.heap.size w wa := by rw [hwa]; exact (Below.refl _ w).alloc (Nat.le_refl _) _
  have bx : Box7 wa w.heap.size zeroR := by rw [hwa]; exact Box7.new w zeroR
  have hl := h.len
  have hnc := h.nc
  have hcm : c ≤ 9223372036854775807 := h.cm
  have hE : (m : Int) - 1 = (k : Int) := by omega
  obtain ⟨b, o, hA, _⟩ := h.some (by omega)
  subst hA
  have ha := h.below hba
  have hx0 := wf_u (h.wfAt (j := 0) (by omega))
  have HY0 : Hid (∀ w', Below wa.heap.size wa w' → w'.cell? ⟨b, o, none⟩ = some (.int .u64 (ws.getD 0 0))) := Lib.hid (fun w' hb => by simpa using (ha.below hb).at_ (j := 0) (by omega))
  obtain ⟨zs, hzs⟩ : ∃ zs, zs = ws.drop 1 := ⟨_, rfl⟩
  have hzl : zs.length = k := by rw [hzs, List.length_drop]; omega
  have HP1 : Hid (Zs .u64 wa (some ⟨b, o + 1, none⟩) k (c - 1) zs) := Lib.hid (by
    have hpart := ha.part (lo := 1) (m := k) (o' := o + 1) (by omega) (.inr rfl)
    rw [List.take_of_length_le (by rw [List.length_drop]; omega), ← hzs] at hpart
    exact hpart)
  have HT : Hid (∀ g : Bool, g = (ws.getD 0 0 == 1) → Tm.mk 2 0 g (bgM (bgl zs)) 0 ⟨#[]⟩ [] = bgT ws) := Lib.hid (fun g hg => by
    unfold bgT
    rw [← hzs, hg]
    congr 1)
  generalize ws.getD 0 0 = x0 at *
  generalize bgT ws = TT at *
  have hm2 : m - 1 = k := by omega
  have hmc : (m : Int) ≤ (c : Int) := by omega
  have hm1 : (1 : Int) ≤ (m : Int) := by omega
  have hc1 : ¬ c = 1 := by omega
  have hk100 : k ≤ 100 := by omega
  have HBX := Lib.hid bx
  have HBA := Lib.hid hba
  clear h ha hl hzs bx
  replace hk := Lib.hid hk
  go_enter Tryz.func86, Tryz.ntmps86
  go_upto_region 1 with fail
  simp only at hwa
  rw [← hwa]
  clear hwa
  generalize hD : w.heap.size = D at *
  replace hD := Lib.hid hD
  go_wp2_with fail
  go_loopw [3, 10] (fun v3 v10 wx => ∃ (i : Nat) (A' : Option Addr) (c' : Nat), i ≤ k ∧ v10 = .int .i64 (i : Int) ∧ v3 = .slice A' (i * 2) c' ∧ Own wx wa.heap.size A' (i * 2) c' (bgl (zs.take i)) ∧ Below wa.heap.size wa wx) (fun _ v10 _ => k - (intOf v10).toNat)
  case atStart => exact ⟨0, none, 0, Nat.zero_le _, rfl, rfl, Own.nil _ _, Below.refl _ _⟩
  case round =>
    obtain ⟨i, A', c', hi, rfl, rfl, hO, hb⟩ := hrel
    by_cases him : i < k
    · have hd1 : decide ((i : Int) < (k : Int)) = true := decide_eq_true (by omega)
      have y0 := (HP1.out.below hb).at_ him
      have hx := wf_u (HP1.out.wfAt him)
      have htk := bgl_take (zs := zs) (i := i) (by omega)
      obtain ⟨lo, hlo⟩ : ∃ lo, lo = (zs.getD i 0 % 4294967296).toNat := ⟨_, rfl⟩
      obtain ⟨hh, hhh⟩ : ∃ hh, hh = (zs.getD i 0 / 4294967296).toNat := ⟨_, rfl⟩
      rw [← hlo, ← hhh] at htk
      have hlo1 : zs.getD i 0 % 4294967296 = (lo : Int) := by omega
      have hhi1 : zs.getD i 0 / 4294967296 = (hh : Int) := by omega
      have hlo2 : lo < 4294967296 := by omega
      have hhi2 : hh < 4294967296 := by omega
      clear hlo hhh
      generalize zs.getD i 0 = x at *
      have hbn : Below wr.heap.size wr (wr.alloc (.cells (arr [lo, hh]) 128)) := (Below.refl _ _).alloc (Nat.le_refl _) _
      have hsm : Lm.Small [lo, hh] := fun y hy => by
        simp only [List.mem_cons, List.not_mem_nil, or_false] at hy
        rcases hy with rfl | rfl <;> omega
      obtain ⟨A2, c2, w2, run2, hO2, hG2⟩ := append_lim _ wa.heap.size A' (i * 2) c' (bgl (zs.take i)) (hO.below hbn) (some ⟨wr.heap.size, 0, none⟩) 2 2 [lo, hh] (Lim.new wr [lo, hh] hsm) (by omega) (Nat.le_trans hb.size hbn.size) 35
      have hb2 : Hid (Below wa.heap.size wa w2) := Lib.hid ((hb.trans (hbn.mono hb.size)).trans hG2)
      have HO2 := Lib.hid (htk ▸ hO2)
      rw [show arr [lo, hh] = #[.int .u32 (lo : Int), .int .u32 (hh : Int)] from rfl] at run2
      have R2 := Lib.hid run2
      clear hO hb hbn run2 hO2 hG2 htk hsm
      go_wp2_with (at_builtin; refine wpApp rfl (.tmp 14) (.tmp 20) _ rfl _ _ _ rfl rfl R2.out ?_)
      exact ⟨⟨i + 1, A2, c2, by omega, rfl, by rw [show (i + 1) * 2 = i * 2 + 2 by omega], by rw [show (i + 1) * 2 = i * 2 + 2 by omega]; exact HO2.out, hb2.out⟩, by simp [intOf]; omega⟩
    · have ei : i = k := by omega
      subst ei
      have hd1 : decide ((i : Int) < (i : Int)) = false := decide_eq_false (by omega)
      rw [List.take_of_length_le (by omega)] at hO
      have hlen : (bgl zs).length = i * 2 := by rw [bgl_len, hzl]
      have hlim := hO.lim
      obtain ⟨g, o2, hA, _, hcell⟩ := hlim.2.2.2 (by omega)
      subst hA
      have z0 := hcell (i * 2 - 1) (by omega)
      have hlast : (bgl zs).getLast? = some (Lm.lg (bgl zs) (i * 2 - 1)) := by
        rw [List.getLast?_eq_getElem?, hlen]
        unfold Lm.lg
        rw [List.getD_eq_getElem?_getD, List.getElem?_eq_getElem (by omega)]
        rfl
      have hE2 : (i : Int) * 2 - 1 = ((i * 2 - 1 : Nat) : Int) := by omega
      have hbx := HBX.out.below hb
      have HT2 := HT.out (x0 == 1) rfl
      have y0 := HY0.out wr hb
      have hcc := hO.cap
      have hcc1 : c' ≤ 9223372036854775807 := hcc.2
      have hcc2 := hcc.1
      have HB9 : Hid (Below D w wr) := Lib.hid (HBA.out.trans (hb.mono (by have h9 := HBA.out.size; rw [hD.out] at h9; exact h9)))
      have hD9 : Hid (D < wa.heap.size) := Lib.hid HBX.out.lt
      generalize hM : i * 2 - 1 = M at *
      have hi2 : i * 2 = M + 1 := by omega
      have hM1 : (i : Int) * 2 = (M : Int) + 1 := by omega
      clear hM hlim hcell HT HY0 HBX HBA HP1
      have f0 := hbx.frozen 0; have f1 := hbx.frozen 1; have f2 := hbx.frozen 2; have f3 := hbx.frozen 3; have f4 := hbx.frozen 4; have f5 := hbx.frozen 5; have f6 := hbx.frozen 6; have q0 := hbx.at.c0; have q1 := hbx.at.c1; have q2 := hbx.at.c2; have q3 := hbx.at.c3; have q4 := hbx.at.c4; have q5 := hbx.at.c5; have q6 := hbx.at.c6
      by_cases hl0 : Lm.lg (bgl zs) M = 0
      · rw [hl0] at z0 hlast
        have HM : Hid (bgM (bgl zs) = (bgl zs).take M) := Lib.hid (by unfold bgM; rw [if_pos hlast, List.dropLast_eq_take, hlen, hi2]; rfl)
        have HO := Lib.hid (hO.take M (by omega))
        clear hO hlast
        go_wp2
        have C := (hbx.put ⟨2, 0, x0 == 1, some ⟨g, o2, none⟩, M, c', 0, ⟨#[]⟩, none, 0, 0⟩).at
        have hB5 := HB9.out.put7 (g := D) (Nat.le_refl _) ⟨2, 0, x0 == 1, some ⟨g, o2, none⟩, M, c', 0, ⟨#[]⟩, none, 0, 0⟩
        have hO5 := own_p7 HO.out hD9.out ⟨2, 0, x0 == 1, some ⟨g, o2, none⟩, M, c', 0, ⟨#[]⟩, none, 0, 0⟩
        have y0 := C.c0; have y1 := C.c1; have y2 := C.c2; have y3 := C.c3; have y4 := C.c4; have y5 := C.c5; have y6 := C.c6
        clear C f0 f1 f2 f3 f4 f5 f6 q0 q1 q2 q3 q4 q5 q6
        change bodyPost _ _ _ _ _ (put7 wr D ⟨2, 0, x0 == 1, some ⟨g, o2, none⟩, M, c', 0, ⟨#[]⟩, none, 0, 0⟩)
        generalize put7 wr D ⟨2, 0, x0 == 1, some ⟨g, o2, none⟩, M, c', 0, ⟨#[]⟩, none, 0, 0⟩ = W5 at *
        exact bodyPost_ret (v := .agg #[.int .i64 2, .int .i64 0, .bool (x0 == 1), .slice (some ⟨g, o2, none⟩) (M) c', .int .u64 0, .string ⟨#[]⟩, .slice none 0 0]) (by simp [results, Tryz.results86, go_sem, y0, y1, y2, y3, y4, y5, y6]) rfl
          ⟨⟨2, 0, x0 == 1, some ⟨g, o2, none⟩, M, c', 0, ⟨#[]⟩, none, 0, 0⟩, rfl, by rw [← HT2, HM.out]; exact TV.big hO5.lim hO5.cap.2, by rw [← HT2, HM.out]; exact hO5.mono (by rw [hD.out]; exact Nat.le_of_lt hD9.out), rfl, by rw [hD.out]; exact hB5⟩
      · have hlb := beq_eq_false_iff_ne.2 hl0
        have HM : Hid (bgM (bgl zs) = bgl zs) := Lib.hid (by unfold bgM; rw [hlast, if_neg (fun e => hl0 (Option.some.inj e))])
        have hll := Lm.lg_lt hO.1 M
        rw [hi2] at hO
        have HO := Lib.hid hO
        have hli : ((Lm.lg (bgl zs) M : Int) == 0) = false := beq_eq_false_iff_ne.2 (by omega)
        clear hO hlast
        generalize Lm.lg (bgl zs) M = ll at *
        go_wp2
        have C := (hbx.put ⟨2, 0, x0 == 1, some ⟨g, o2, none⟩, (M + 1), c', 0, ⟨#[]⟩, none, 0, 0⟩).at
        have hB5 := HB9.out.put7 (g := D) (Nat.le_refl _) ⟨2, 0, x0 == 1, some ⟨g, o2, none⟩, (M + 1), c', 0, ⟨#[]⟩, none, 0, 0⟩
        have hO5 := own_p7 HO.out hD9.out ⟨2, 0, x0 == 1, some ⟨g, o2, none⟩, (M + 1), c', 0, ⟨#[]⟩, none, 0, 0⟩
        have y0 := C.c0; have y1 := C.c1; have y2 := C.c2; have y3 := C.c3; have y4 := C.c4; have y5 := C.c5; have y6 := C.c6
        clear C f0 f1 f2 f3 f4 f5 f6 q0 q1 q2 q3 q4 q5 q6
        change bodyPost _ _ _ _ _ (put7 wr D ⟨2, 0, x0 == 1, some ⟨g, o2, none⟩, (M + 1), c', 0, ⟨#[]⟩, none, 0, 0⟩)
        generalize put7 wr D ⟨2, 0, x0 == 1, some ⟨g, o2, none⟩, (M + 1), c', 0, ⟨#[]⟩, none, 0, 0⟩ = W5 at *
        exact bodyPost_ret (v := .agg #[.int .i64 2, .int .i64 0, .bool (x0 == 1), .slice (some ⟨g, o2, none⟩) ((M + 1)) c', .int .u64 0, .string ⟨#[]⟩, .slice none 0 0]) (by simp [results, Tryz.results86, go_sem, y0, y1, y2, y3, y4, y5, y6]) rfl
          ⟨⟨2, 0, x0 == 1, some ⟨g, o2, none⟩, (M + 1), c', 0, ⟨#[]⟩, none, 0, 0⟩, rfl, by rw [← HT2, HM.out]; exact TV.big hO5.lim hO5.cap.2, by rw [← HT2, HM.out]; exact hO5.mono (by rw [hD.out]; exact Nat.le_of_lt hD9.out), rfl, by rw [hD.out]; exact hB5⟩
end Go.Proofs.YtejmmjedognaaaaGreat
