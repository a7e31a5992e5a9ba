/-
  PACKAGE look: leaf.
  PACKAGE look: weights that are known; parts.
  PACKAGE look: weighed, weight.
-/
import Derived.Test.YtejmmjedognaaaaGreatMv29
import Derived.Maps.OwnIn
namespace Go.Proofs.YtejmmjedognaaaaGreat
open Go.RowKit
open St

/-- What leaf answers. -/
def LfP (w : World) (o : Option Tm) (e : Ending) (w' : World) : Prop :=
  (∃ R : TR, e = .returned (.tuple #[.agg #[.int .i64 R.k, .int .i64 R.n, .bool R.g, .slice R.A R.ln R.lc, .int .u64 R.u, .string R.s, .slice R.B R.m R.d], .bool o.isSome]) ∧ ∀ t, o = some t → TV w' R t ∧ Own w' w.heap.size R.A R.ln R.lc t.mag ∧ R.m = 0) ∧ Below w.heap.size w w'

set_option maxRecDepth 100000 in
/-- Three variables that leaf begins with. -/
theorem rdr_obj3 (w : World) (mv : Value) (SA : Option Addr) (sm sc : Nat) (kv : Value) (k : Int) (A : Option Addr) (n c : Nat) :
    ∃ wb, wb = ((w.alloc (.cells #[mv, .slice SA sm sc, kv] 68)).alloc (.cells #[.int .i64 k, .slice A n c] 93)).alloc (.cells #[.int .i64 zeroR.k, .int .i64 zeroR.n, .bool zeroR.g, .slice zeroR.A zeroR.ln zeroR.lc, .int .u64 zeroR.u, .string zeroR.s, .slice zeroR.B zeroR.m zeroR.d] 40) ∧ Below w.heap.size w wb ∧ Rdr wb w.heap.size mv SA sm sc kv ∧ Ob wb (w.heap.size + 1) k A n c ∧ Box7 wb (w.heap.size + 2) zeroR ∧ wb.heap.size = w.heap.size + 3 := by
  obtain ⟨wb, hwb, hbb, rd, ob, hsz⟩ := rdr_obj w mv SA sm sc kv k A n c
  have hb := (Below.refl wb.heap.size wb).alloc (Nat.le_refl _) (.cells #[.int .i64 zeroR.k, .int .i64 zeroR.n, .bool zeroR.g, .slice zeroR.A zeroR.ln zeroR.lc, .int .u64 zeroR.u, .string zeroR.s, .slice zeroR.B zeroR.m zeroR.d] 40)
  refine ⟨_, by rw [← hwb], hbb.trans (hb.mono hbb.size), rd.below hb rd.lt, ob.below hb ob.lt, ?_, by simp; omega⟩
  rw [← hsz]
  exact Box7.new wb zeroR
set_option maxRecDepth 100000 in
theorem tv_relim {w w' : World} {R : TR} {t : Tm} (h : TV w R t) (hm : R.m = 0) (hl : Lim w' R.A R.ln R.lc t.mag) : TV w' R t := by
  cases h with
  | mk _ l ks V hf hkm hs hk =>
    refine .mk R l ks V ⟨hf.k0, hf.k1, hf.n0, hf.n1, hf.u0, hf.u1, hl, hf.cap, hf.str, hf.md, hf.dd⟩ hkm (fun h => by omega) (fun i t e => ?_)
    have : ks = [] := List.eq_nil_of_length_eq_zero (by omega)
    rw [this] at e
    simp at e
set_option maxRecDepth 100000 in
theorem tv_flat {w : World} {k u : Int} {s : ByteArray} (k0 : -9223372036854775808 ≤ k) (k1 : k ≤ 9223372036854775807) (u0 : 0 ≤ u) (u1 : u ≤ 18446744073709551615) (hs : s.size ≤ maxLen) : TV w ⟨k, 0, false, none, 0, 0, u, s, none, 0, 0⟩ (.mk k 0 false [] u s []) :=
  TV.mk' k0 k1 (by omega) (by omega) u0 u1 (Lim.nil _ _ _) (Nat.zero_le _) hs (TVs.nil _ _ _ (Nat.zero_le _))

set_option maxRecDepth 100000 in
theorem txO_size {gs : List Frg} {S : List Slt} {k : Int} {ws : List Int} (hf : formO gs k ws = true) (hk : k = 3 ∨ k = 4 ∨ k = 5) (h1 : 0 ≤ ws.getD 1 0) (h2 : 0 ≤ ws.getD 2 0) : (txO gs S k ws).1.size ≤ 1000 := by
  have key : ∀ k b, (byR [] false k b).2.2 = true → (byR S true k b).1.size ≤ 1000 := fun k b hf => by
    cases h : (byR S true k b).2.2 with
    | true =>
      have e1 := byR_ok h
      have := e1.2 (by simp)
      omega
    | false =>
      rcases byF_3 hf with rfl | rfl
      · obtain ⟨n, _, _, _, _, hby⟩ := byH_ok (S := S) hf
        rw [hby] at h
        cases h
      · have hs := (byC_sl (S := S) hf).2.2.2
        have e1 : (byR S true 4 b).1 = ((slO S b).getD Slt.zero).tx := congrArg Prod.fst hs
        have e2 : (byR S true 4 b).2.2 = (slO S b).isSome := congrArg Prod.snd hs
        rw [e2] at h
        cases hso : slO S b with
        | none => rw [e1, hso]; simp [Slt.zero, ByteArray.size]
        | some s => rw [hso] at h; cases h
  unfold formO at hf
  unfold txO
  rcases hk with rfl | rfl | rfl
  · exact key 3 ws hf
  · exact key 4 ws hf
  · obtain ⟨_, k, b, _, hfb, f, m, _, _, _, _, hres⟩ := sub_split (S := S) (gs := gs) (ws := ws) hf h1 h2
    rw [if_pos rfl, hres]
    split
    · simp [ByteArray.size]
    · have := key k b hfb
      simp only [ByteArray.size_extract]
      omega

set_option maxRecDepth 100000 in
set_option maxRecDepth 100000 in
set_option maxHeartbeats 8000000 in
theorem leaf_any {w : World} {gs : List Frg} {mv : Value} (hM : Mm w gs mv) (hgs : ∀ f ∈ gs, f.ws.length ≤ 1000) {SA : Option Addr} {sm sc : Nat} {S : List Slt} (hS : SLs w SA sm sc S) (hsm : sm ≤ 1000) {A : Option Addr} {n c : Nat} {ws : List Int} (kv : Value) (h : Zs .u64 w A n c ws) (hn : n ≤ 1000) (k : Int) (hk : 1 ≤ k ∧ k ≤ 5) (hf : formO gs k ws = true) :
    Calls Tryz.prog 57 #[.agg #[mv, .slice SA sm sc, kv], .agg #[.int .i64 k, .slice A n c]] w (LfP w (lfO gs S k ws)) := by
  obtain ⟨wb, hwb, hbb, rd, ob, tb, hsz⟩ := rdr_obj3 w mv SA sm sc kv k A n c
  have hz := h.below hbb
  have HB := Lib.hid hbb
  have HTb := Lib.hid tb
  have q0 := ob.c0
  have q1 := ob.c1
  by_cases h1 : k = 1
  · subst h1
    have hbg : bgB ws = true := hf
    have hlo : lfO gs S 1 ws = some (bgT ws) := rfl
    rw [hlo]
    simp only [bgB, Bool.and_eq_true, decide_eq_true_eq] at hbg
    have hl := h.len
    have HBig := Lib.hid (big_any hz (k := n - 1) (by omega) (by omega) (by omega))
    clear h hz rd ob tb hbb hS hM hf hlo
    generalize bgT ws = t at *
    go_enter Tryz.func57, Tryz.ntmps57
    go_upto_region 1 with fail
    simp only at hwb
    rw [← hwb]
    clear hwb
    generalize hD : w.heap.size = D at *
    go_wp2_with (go_at_call 86; (with_reducible refine HBig.out.mono ?_); rintro e w3 ⟨R, rfl, hT, hO, hRm, hb3⟩; have hx3 := HTb.out.below hb3; have HBx := Lib.hid (HB.out.trans (hb3.mono (show D ≤ wb.heap.size by omega))); replace hT := Lib.hid hT; replace hO := Lib.hid hO; replace hRm := Lib.hid hRm; clear hb3; have f0 := hx3.frozen 0; have f1 := hx3.frozen 1; have f2 := hx3.frozen 2; have f3 := hx3.frozen 3; have f4 := hx3.frozen 4; have f5 := hx3.frozen 5; have f6 := hx3.frozen 6; have p0 := hx3.at.c0; have p1 := hx3.at.c1; have p2 := hx3.at.c2; have p3 := hx3.at.c3; have p4 := hx3.at.c4; have p5 := hx3.at.c5; have p6 := hx3.at.c6; replace hx3 := Lib.hid hx3)
    have C := (hx3.out.put R).at
    have hB5 := HBx.out.put7 (g := D + 2) (by omega) R
    have hO5 := own_p7 hO.out (show D + 2 < wb.heap.size by omega) R
    have y0 := C.c0; have y1 := C.c1; have y2 := C.c2; have y3 := C.c3; have y4 := C.c4; have y5 := C.c5; have y6 := C.c6
    clear C f0 f1 f2 f3 f4 f5 f6 p0 p1 p2 p3 p4 p5 p6
    change bodyPost _ _ _ _ _ (put7 w3 (D + 2) R)
    generalize put7 w3 (D + 2) R = W5 at *
    exact bodyPost_ret (v := .tuple #[.agg #[.int .i64 R.k, .int .i64 R.n, .bool R.g, .slice R.A R.ln R.lc, .int .u64 R.u, .string R.s, .slice R.B R.m R.d], .bool true]) (by simp [results, Tryz.results57, go_sem, y0, y1, y2, y3, y4, y5, y6]) rfl ⟨⟨R, rfl, fun t' e => by cases e; exact ⟨tv_relim hT.out hRm.out hO5.lim, hO5.mono (by omega), hRm.out⟩⟩, by rw [hD]; exact hB5⟩
  · by_cases h2 : k = 2
    · subst h2
      have hff : (decide (ws.length = 1) && (cleanI (ws.getD 0 0) == ws.getD 0 0)) = true := hf
      have hlo : lfO gs S 2 ws = some (flT (ws.getD 0 0)) := rfl
      rw [hlo]
      simp only [Bool.and_eq_true, decide_eq_true_eq] at hff
      have hl := h.len
      have hn1 : n = 1 := by omega
      subst hn1
      obtain ⟨b, o, hA, _⟩ := hz.some (by omega)
      subst hA
      have y0 : wb.cell? ⟨b, o, none⟩ = some (.int .u64 (ws.getD 0 0)) := by simpa using hz.at_ (j := 0) (by omega)
      have hx := wf_u (hz.wfAt (j := 0) (by omega))
      clear h hz rd ob tb hbb hS hM hf hlo hff hl
      generalize ws.getD 0 0 = x at *
      go_enter Tryz.func57, Tryz.ntmps57
      go_upto_region 1 with fail
      simp only at hwb
      rw [← hwb]
      clear hwb
      generalize hD : w.heap.size = D at *
      have hx3 := HTb.out
      have f0 := hx3.frozen 0; have f1 := hx3.frozen 1; have f2 := hx3.frozen 2; have f3 := hx3.frozen 3; have f4 := hx3.frozen 4; have f5 := hx3.frozen 5; have f6 := hx3.frozen 6; have p0 := hx3.at.c0; have p1 := hx3.at.c1; have p2 := hx3.at.c2; have p3 := hx3.at.c3; have p4 := hx3.at.c4; have p5 := hx3.at.c5; have p6 := hx3.at.c6
      clear hx3
      go_wp2
      have C := (HTb.out.put ⟨3, 0, false, none, 0, 0, x, ⟨#[]⟩, none, 0, 0⟩).at
      have hB5 := HB.out.put7 (g := D + 2) (by omega) ⟨3, 0, false, none, 0, 0, x, ⟨#[]⟩, none, 0, 0⟩
      clear y0 f0 f1 f2 f3 f4 f5 f6 p0 p1 p2 p3 p4 p5 p6
      have y0 := C.c0; have y1 := C.c1; have y2 := C.c2; have y3 := C.c3; have y4 := C.c4; have y5 := C.c5; have y6 := C.c6
      clear C
      change bodyPost _ _ _ _ _ (put7 wb (D + 2) ⟨3, 0, false, none, 0, 0, x, ⟨#[]⟩, none, 0, 0⟩)
      generalize put7 wb (D + 2) ⟨3, 0, false, none, 0, 0, x, ⟨#[]⟩, none, 0, 0⟩ = W5 at *
      exact bodyPost_ret (v := .tuple #[.agg #[.int .i64 3, .int .i64 0, .bool false, .slice none 0 0, .int .u64 x, .string ⟨#[]⟩, .slice none 0 0], .bool true]) (by simp [results, Tryz.results57, go_sem, y0, y1, y2, y3, y4, y5, y6]) rfl ⟨⟨⟨3, 0, false, none, 0, 0, x, ⟨#[]⟩, none, 0, 0⟩, rfl, fun t' e => by cases e; exact ⟨tv_flat (by omega) (by omega) hx.1 hx.2 (Nat.zero_le _), Own.nil _ _, rfl⟩⟩, by rw [hD]; exact hB5⟩
    · have hk5 : k = 3 ∨ k = 4 ∨ k = 5 := by omega
      have hlo : lfO gs S k ws = if (txO gs S k ws).2 then some (biT (txO gs S k ws).1) else none := by
        unfold lfO
        rw [if_neg h1, if_neg h2]
      obtain ⟨res, hr⟩ : ∃ res, res = lfO gs S k ws := ⟨_, rfl⟩
      rw [← hr]
      rw [hlo] at hr
      have hl := h.len
      have hnn : ∀ j, 0 ≤ ws.getD j 0 := fun j => by
        by_cases hj : j < n
        · exact (wf_u (h.wfAt hj)).1
        · rw [List.getD_eq_getElem?_getD, List.getElem?_eq_none (by omega)]
          exact Int.le_refl 0
      have hsz9 := txO_size (S := S) hf hk5 (hnn 1) (hnn 2)
      have HTx := Lib.hid (text_any (hM.below hbb) hgs (hS.below hbb) hsm kv hz hn k hk5 hf)
      have d1 : (k == 1) = false := beq_eq_false_iff_ne.2 h1
      have d2 : (k == 2) = false := beq_eq_false_iff_ne.2 h2
      have r0 := rd.c0
      have r1 := rd.c1
      have r2 := rd.c2
      clear h hz rd ob tb hbb hS hM hf hlo hl hnn h1 h2 hk5
      generalize txO gs S k ws = tx at *
      obtain ⟨tx, okb⟩ := tx
      unfold TxP at HTx
      simp only at HTx hsz9 hr
      have HR1 : Hid (res.isSome = okb) := Lib.hid (by rw [hr]; cases okb <;> rfl)
      have HR2 : Hid (∀ t, res = some t → t = biT tx) := Lib.hid (fun t e => by
        rw [hr] at e
        cases okb with
        | false => cases e
        | true => cases e; rfl)
      clear hr
      go_enter Tryz.func57, Tryz.ntmps57
      go_upto_region 1 with fail
      simp only at hwb
      rw [← hwb]
      clear hwb
      generalize hD : w.heap.size = D at *
      go_wp2_with (go_at_call 87; (with_reducible refine HTx.out.mono ?_); rintro e w3 ⟨rfl, hb3⟩; have hx3 := HTb.out.below hb3; have HBx := Lib.hid (HB.out.trans (hb3.mono (show D ≤ wb.heap.size by omega))); clear hb3; have f0 := hx3.frozen 0; have f1 := hx3.frozen 1; have f2 := hx3.frozen 2; have f3 := hx3.frozen 3; have f4 := hx3.frozen 4; have f5 := hx3.frozen 5; have f6 := hx3.frozen 6; have p0 := hx3.at.c0; have p1 := hx3.at.c1; have p2 := hx3.at.c2; have p3 := hx3.at.c3; have p4 := hx3.at.c4; have p5 := hx3.at.c5; have p6 := hx3.at.c6; replace hx3 := Lib.hid hx3)
      have C := (hx3.out.put ⟨9, 0, false, none, 0, 0, 0, tx, none, 0, 0⟩).at
      have hB5 := HBx.out.put7 (g := D + 2) (by omega) ⟨9, 0, false, none, 0, 0, 0, tx, none, 0, 0⟩
      clear f0 f1 f2 f3 f4 f5 f6 p0 p1 p2 p3 p4 p5 p6
      have y0 := C.c0; have y1 := C.c1; have y2 := C.c2; have y3 := C.c3; have y4 := C.c4; have y5 := C.c5; have y6 := C.c6
      clear C
      change bodyPost _ _ _ _ _ (put7 w3 (D + 2) ⟨9, 0, false, none, 0, 0, 0, tx, none, 0, 0⟩)
      generalize put7 w3 (D + 2) ⟨9, 0, false, none, 0, 0, 0, tx, none, 0, 0⟩ = W5 at *
      refine bodyPost_ret (v := .tuple #[.agg #[.int .i64 9, .int .i64 0, .bool false, .slice none 0 0, .int .u64 0, .string tx, .slice none 0 0], .bool okb]) (by simp [results, Tryz.results57, go_sem, y0, y1, y2, y3, y4, y5, y6]) rfl ⟨⟨⟨9, 0, false, none, 0, 0, 0, tx, none, 0, 0⟩, ?_, fun t' e => ?_⟩, by rw [hD]; exact hB5⟩
      · rw [HR1.out]
      · rw [HR2.out t' e]
        · exact ⟨tv_flat (by omega) (by omega) (by omega) (by omega) (by unfold maxLen; omega), Own.nil _ _, rfl⟩
end Go.Proofs.YtejmmjedognaaaaGreat

namespace Go.Proofs.YtejmmjedognaaaaGreat
open Go.RowKit
open St

set_option maxRecDepth 100000 in
theorem lawU : Maps.Keyed Tryz.prog 30 := Maps.int_keyed Tryz.underlying30
set_option maxRecDepth 100000 in
theorem zeroI' (w : World) : (zeroValue 3).run Tryz.prog w = .ok (.int .i64 0) w := by kernel_rfl
/-- A map of weights that are right. -/
def KnM (gs : List Frg) (S : List Slt) (w : World) (b n : Nat) : Prop :=
  ∃ D : DataW Unit, w.ownsMap Tryz.prog 30 (plainElem Tryz.prog 3) b n D ∧ Maps.Tidy D ∧ ∀ x : Int, Maps.has D (.int .u64 x) = true → ∃ t, Rd gs S x t ∧ t.wt ≤ 300 ∧ D.atKey (.int .u64 x) (.lit (.int .i64 0)) = .lit (.int .i64 (t.wt : Int))
def KN (gs : List Frg) (S : List Slt) (w : World) (kv : Value) (n : Nat) : Prop := kv = .map none ∨ ∃ b, kv = .map (some b) ∧ KnM gs S w b n
def Kk (kv : Value) (k : Nat) : Prop := kv = .map (some k)
section
variable {gs : List Frg} {S : List Slt} {w w' : World} {kv : Value} {n : Nat}
set_option maxRecDepth 100000 in
theorem KN.isMap (h : KN gs S w kv n) {b : Nat} (e : kv = .map (some b)) : ∃ es c, w.heap[b]? = some (.map es c) := by
  rcases h with rfl | ⟨b', rfl, D, ⟨es, clock, hb, _⟩, _⟩
  · cases e
  · cases e; exact ⟨es, clock, hb⟩
set_option maxRecDepth 100000 in
theorem KN.below (h : KN gs S w kv n) (hb : Below w.heap.size w w') : KN gs S w' kv n := by
  rcases h with h | ⟨b, e, D, ⟨es, clock, hbk, r⟩, h2⟩
  · exact .inl h
  · exact .inr ⟨b, e, D, ⟨es, clock, (hb.block b (Array.getElem?_eq_some_iff.1 hbk).1).trans hbk, r⟩, h2⟩
set_option maxRecDepth 100000 in
theorem KN.drewN (h : KN gs S w kv n) (q : Nat) : KN gs S (w.drewN q) kv n := h.below (bel_drewN w q)
/-- What a reader keeps: all but its map. -/
structure Ch (kv : Value) (w w' : World) : Prop where
  chg : Chg (Kk kv) w w'
  map : ∀ b, kv = .map (some b) → ∃ es c, w.heap[b]? = some (.map es c)
set_option maxRecDepth 100000 in
theorem Ch.refl (h : KN gs S w kv n) : Ch kv w w := ⟨Chg.refl _ _, fun _ e => h.isMap e⟩
set_option maxRecDepth 100000 in
theorem Ch.below (h : KN gs S w kv n) (hb : Below w.heap.size w w') : Ch kv w w' := ⟨Chg.below hb, fun _ e => h.isMap e⟩
set_option maxRecDepth 100000 in
theorem Ch.trans {w'' : World} (h : Ch kv w w') (g : Ch kv w' w'') : Ch kv w w'' := ⟨h.chg.trans g.chg (fun _ _ e => e), h.map⟩
set_option maxRecDepth 100000 in
theorem Ch.bel {w'' : World} (h : Ch kv w w') (hb : Below w'.heap.size w' w'') : Ch kv w w'' := ⟨h.chg.trans (Chg.below (K := Kk kv) hb) (fun _ _ e => e), h.map⟩
set_option maxRecDepth 100000 in
theorem Ch.blk (h : Ch kv w w') {D : Nat} {cs : Array Value} {t : TypeId} {f : Nat × Nat} (hD : w.heap[D]? = some (.cells cs t f)) : w'.heap[D]? = some (.cells cs t f) :=
  (h.chg.block D (Array.getElem?_eq_some_iff.1 hD).1 (fun e => by
    obtain ⟨es, c, hm⟩ := h.map D e
    rw [hD] at hm
    cases hm)).trans hD
set_option maxRecDepth 100000 in
theorem Ch.cell (h : Ch kv w w') {p : Addr} {v : Value} (hp : w.cell? p = some v) : w'.cell? p = some v := by
  have hlt := World.block_lt_of_cell? w _ hp
  refine (World.cell?_of_block (w := w) (a := p) (h.chg.block p.block hlt (fun e => ?_))).trans hp
  obtain ⟨es, c, hm⟩ := h.map p.block e
  simp [World.cell?, hm] at hp
set_option maxRecDepth 100000 in
theorem Ch.size (h : Ch kv w w') : w.heap.size ≤ w'.heap.size := h.chg.size
set_option maxRecDepth 100000 in
theorem Ch.zs (h : Ch kv w w') {q : IntKind} {A : Option Addr} {n c : Nat} {zs : List Int} (hz : Zs q w A n c zs) : Zs q w' A n c zs := by
  refine ⟨hz.len, hz.nc, hz.cm, hz.wf, fun hn => ?_⟩
  obtain ⟨b, o, e, hlt, hc⟩ := hz.el hn
  exact ⟨b, o, e, Nat.lt_of_lt_of_le hlt h.size, fun j hj => h.cell (hc j hj)⟩
set_option maxRecDepth 100000 in
theorem Ch.fv (h : Ch kv w w') {r : FR} {f : Frg} (hf : FV w r f) : FV w' r f := ⟨hf.at_, hf.wf, h.zs hf.ws⟩
set_option maxRecDepth 100000 in
theorem Ch.fvs (h : Ch kv w w') {A : Option Addr} {m c : Nat} {rs : List FR} {fs : List Frg} (hf : FVs w A m c rs fs) : FVs w' A m c rs fs := by
  refine ⟨hf.len, hf.lef, hf.mc, hf.cm, fun hm => ?_, fun i hi => h.fv (hf.fv i hi)⟩
  obtain ⟨b, o, e, hlt, hc⟩ := hf.el hm
  refine ⟨b, o, e, Nat.lt_of_lt_of_le hlt h.size, fun i hi j hj => ?_⟩
  have h1 := hc i hi j hj
  have hlen : (rs.getD i FR.zero).cells.length = 2 := rfl
  rw [List.getElem?_eq_getElem (by omega)] at h1 ⊢
  exact h.cell h1
set_option maxRecDepth 100000 in
theorem Ch.dv (h : Ch kv w w') {r : DR} {d : Dmp} (hd : DV w r d) : DV w' r d := ⟨h.fv hd.y, h.fv hd.o, hd.size, hd.mark, hd.wfs, hd.wfm, h.fvs hd.fs, h.zs hd.roots, h.zs hd.hs⟩
set_option maxRecDepth 100000 in
theorem Ch.sls (h : Ch kv w w') {A : Option Addr} {m c : Nat} {L : List Slt} (hs : SLs w A m c L) : SLs w' A m c L := by
  refine ⟨hs.len, hs.mc, hs.cm, hs.wf, fun hm => ?_⟩
  obtain ⟨b, o, e, hlt, hc⟩ := hs.el hm
  refine ⟨b, o, e, Nat.lt_of_lt_of_le hlt h.size, fun i hi j hj => ?_⟩
  have h1 := hc i hi j hj
  have hlen : (sltCells (gt L i)).length = 3 := rfl
  rw [List.getElem?_eq_getElem (by omega)] at h1 ⊢
  exact h.cell h1
set_option maxRecDepth 100000 in
theorem Ch.mm (h : Ch kv w w') {mv : Value} (hm : Mm w gs mv) : Mm w' gs mv := by
  cases hm with
  | whole r d hd hm e em => exact .whole r d (h.dv hd) hm e em
  | apart A n c rs fs hf hs hn he em => exact .apart A n c rs fs (h.fvs hf) hs hn he em
end

/-- What weight answers. -/
def WtR (gs : List Frg) (S : List Slt) (x : Int) (most v : Nat) : Prop := (v = 0 ∧ ∀ t, Rd gs S x t → most < t.wt) ∨ (0 < v ∧ v ≤ most ∧ ∃ t, Rd gs S x t ∧ t.wt = v)
def PtR (gs : List Frg) (S : List Slt) (ws : List Int) (most v : Nat) : Prop := (v = 0 ∧ ∀ ts, RdA gs S ws ts → most < 1 + Tm.wts ts) ∨ (0 < v ∧ v ≤ most ∧ ∃ ts, RdA gs S ws ts ∧ 1 + Tm.wts ts = v)
def WgR (gs : List Frg) (S : List Slt) (x : Int) (most v : Nat) : Prop := (v = 0 ∧ ∀ t, Rd gs S x t → most < t.wt) ∨ (0 < v ∧ ∃ t, Rd gs S x t ∧ t.wt = v)
def WtP (R : Nat → Prop) (gs : List Frg) (S : List Slt) (kv : Value) (n most : Nat) (w : World) (e : Ending) (w' : World) : Prop :=
  ∃ v n' : Nat, e = .returned (.int .i64 (v : Int)) ∧ R v ∧ v ≤ 1000 ∧ KN gs S w' kv n' ∧ n' ≤ n + most ∧ (0 < v → n' ≤ n + v) ∧ Ch kv w w'
structure Mem (gs : List Frg) (S : List Slt) (mv : Value) (SA : Option Addr) (sm sc : Nat) (w : World) : Prop where
  mm : Mm w gs mv
  sl : SLs w SA sm sc S
  gs1 : ∀ f ∈ gs, f.ws.length ≤ 1000
  sm1 : sm ≤ 1000
set_option maxRecDepth 100000 in
theorem Mem.ch {gs : List Frg} {S : List Slt} {mv : Value} {SA : Option Addr} {sm sc : Nat} {w w' : World} {kv : Value} (h : Mem gs S mv SA sm sc w) (hc : Ch kv w w') : Mem gs S mv SA sm sc w' := ⟨hc.mm h.mm, hc.sls h.sl, h.gs1, h.sm1⟩
set_option maxRecDepth 100000 in
theorem Mem.below {gs : List Frg} {S : List Slt} {mv : Value} {SA : Option Addr} {sm sc : Nat} {w w' : World} (h : Mem gs S mv SA sm sc w) (hb : Below w.heap.size w w') : Mem gs S mv SA sm sc w' := ⟨h.mm.below hb, h.sl.below hb, h.gs1, h.sm1⟩
section
variable (gs : List Frg) (S : List Slt) (mv : Value) (SA : Option Addr) (sm sc : Nat) (kv : Value)
def WeightC (most : Nat) : Prop := ∀ (w : World) (n : Nat) (x : Int), Wd x → n + most ≤ 1000000000 → KN gs S w kv n → Mem gs S mv SA sm sc w →
  Calls Tryz.prog 26 #[.agg #[mv, .slice SA sm sc, kv], .int .u64 x, .int .i64 (most : Int)] w (WtP (WtR gs S x most) gs S kv n most w)
def WeighedC (most : Nat) : Prop := ∀ (w : World) (n : Nat) (x : Int), Wd x → plB x = true → (x % 8 = 4 ∨ x % 8 = 5) → n + most ≤ 1000000000 → KN gs S w kv n → Mem gs S mv SA sm sc w →
  Calls Tryz.prog 53 #[.agg #[mv, .slice SA sm sc, kv], .int .u64 x, .int .i64 (most : Int)] w fun e w' => ∃ v n' : Nat, e = .returned (.int .i64 (v : Int)) ∧ WgR gs S x most v ∧ v ≤ 1000 ∧ KN gs S w' kv n' ∧ n' ≤ n + (most - 1) ∧ (0 < v → n' ≤ n + (v - 1)) ∧ Ch kv w w'
def PartsC (most : Nat) : Prop := ∀ (w : World) (n : Nat) (A : Option Addr) (m c : Nat) (ws : List Int), Zs .u64 w A m c ws → m ≤ 1000 → n + most ≤ 1000000000 → KN gs S w kv n → Mem gs S mv SA sm sc w →
  Calls Tryz.prog 82 #[.agg #[mv, .slice SA sm sc, kv], .slice A m c, .int .i64 (most : Int)] w fun e w' => ∃ v n' : Nat, e = .returned (.int .i64 (v : Int)) ∧ PtR gs S ws most v ∧ v ≤ 1000 ∧ KN gs S w' kv n' ∧ n' ≤ n + (most - 1) ∧ (0 < v → n' ≤ n + (v - 1)) ∧ Ch kv w w'

set_option maxRecDepth 100000 in
set_option maxRecDepth 100000 in
set_option maxHeartbeats 8000000 in
theorem parts_c (most : Nat) (hm0 : 1 ≤ most) (hm3 : most ≤ 300) (ih : ∀ m, m < most → WeightC gs S mv SA sm sc kv m) : PartsC gs S mv SA sm sc kv most := by
  intro w n A m c ws hz hm hn hK hM
  have hl := hz.len
  have hcm : c ≤ 9223372036854775807 := hz.cm
  have hnc := hz.nc
  obtain ⟨wa, hwa⟩ : ∃ wa, wa = w.alloc (.cells #[mv, .slice SA sm sc, kv] 68) := ⟨_, rfl⟩
  have hba : Below w.heap.size w wa := by rw [hwa]; exact (Below.refl _ w).alloc (Nat.le_refl _) _
  have rd : Rdr wa w.heap.size mv SA sm sc kv := by rw [hwa]; exact Rdr.new _ _ _ _ _ _
  have IH := Lib.hid ih
  have H0 := Lib.hid (And.intro (Ch.below hK hba) (And.intro (hK.below hba) (And.intro (hM.below hba) (And.intro (hz.below hba) rd))))
  have HA : Hid (0 < m → ∃ b o, A = some ⟨b, o, none⟩) := Lib.hid (fun h => by
    obtain ⟨b, o, e, _⟩ := hz.some h
    exact ⟨b, o, e⟩)
  clear hz hK hM hba rd ih
  go_enter Tryz.func82, Tryz.ntmps82
  go_upto_region 1 with fail
  rw [← hwa]
  clear hwa
  generalize hD : w.heap.size = D at *
  go_wp2_with fail
  go_loopw [7, 13] (fun v7 v13 wx => ∃ (i s n' : Nat) (ts : List Tm), i ≤ m ∧ v13 = .int .i64 (i : Int) ∧ v7 = .int .i64 (s : Int) ∧ Hid (RdA gs S (ws.take i) ts ∧ s = 1 + Tm.wts ts) ∧ s ≤ most ∧ 1 ≤ s ∧ n' + 1 ≤ n + s ∧ Hid (Ch kv w wx ∧ KN gs S wx kv n' ∧ Mem gs S mv SA sm sc wx ∧ Zs .u64 wx A m c ws ∧ Rdr wx D mv SA sm sc kv)) (fun _ v13 _ => m - (intOf v13).toNat)
  case atStart => exact ⟨0, 1, n, [], Nat.zero_le _, rfl, rfl, Lib.hid ⟨RdA.nil, rfl⟩, hm0, Nat.le_refl _, Nat.le_refl _, H0⟩
  case round =>
    clear H0
    obtain ⟨i, s, n', ts, hi, rfl, rfl, hR, hs, hs1, hn', H⟩ := hrel
    by_cases him : i < m
    · have hd1 : decide ((i : Int) < (m : Int)) = true := decide_eq_true (by omega)
      obtain ⟨b, o, hA⟩ := HA.out (by omega)
      subst hA
      obtain ⟨hC, hK, hM, hz, rd⟩ := H.out
      have y0 := hz.at_ him
      have hx := wf_u (hz.wfAt him)
      have q0 := rd.c0
      have q1 := rd.c1
      have q2 := rd.c2
      obtain ⟨r, hr⟩ : ∃ r : Nat, most - s = r := ⟨_, rfl⟩
      have hE : (most : Int) - (s : Int) = (r : Int) := by omega
      have HW := Lib.hid (IH.out r (by omega) wr n' (ws.getD i 0) hx (by omega) hK hM)
      have hx2 := Lib.hid (show i < ws.length by omega)
      have hx3 := Lib.hid (show most = s + r by omega)
      clear hC hK hM hz rd hr
      generalize hxx : ws.getD i 0 = x at *
      replace hxx := Lib.hid hxx
      go_upto_region 6 with (go_at_call 26; (with_reducible refine HW.out.mono ?_); rintro e w1 ⟨v, n1, rfl, hv, hv9, hK1, hn1, hn2, hC1⟩)
      have HC : Hid (Ch kv w w1 ∧ KN gs S w1 kv n1 ∧ Mem gs S mv SA sm sc w1 ∧ Zs .u64 w1 (some ⟨b, o, none⟩) m c ws ∧ Rdr w1 D mv SA sm sc kv) := Lib.hid ⟨H.out.1.trans hC1, hK1, H.out.2.2.1.ch hC1, hC1.zs H.out.2.2.2.1, ⟨hC1.blk H.out.2.2.2.2.blk⟩⟩
      clear H hK1 hC1 q0 q1 q2 y0
      by_cases hv0 : v = 0
      · have hd2 : ((v : Int) == 0) = true := by rw [hv0]; rfl
        have HP : Hid (∀ us, RdA gs S ws us → most < 1 + Tm.wts us) := Lib.hid (fun us hus => by
          have h1 := hR.out.1.det (hus.take i)
          obtain ⟨t, ht, hrt⟩ := hus.get hx2.out
          rw [hxx.out] at hrt
          have h2 : r < t.wt := by
            rcases hv with ⟨_, hv⟩ | ⟨h0, _⟩
            · exact hv t hrt
            · omega
          have h3 := Tm.wts_take_succ ht
          have h4 := Tm.wts_take_le us (i + 1)
          have h5 := hR.out.2
          have h6 := hx3.out
          rw [h1] at h5
          omega)
        clear hv
        go_wp2
        go_ret
        exact ⟨0, n1, rfl, .inl ⟨rfl, HP.out⟩, by omega, HC.out.2.1, by omega, fun h => by omega, HC.out.1⟩
      · have hd2 : ((v : Int) == 0) = false := beq_eq_false_iff_ne.2 (by omega)
        have hv1 : v ≤ r ∧ ∃ t, Rd gs S x t ∧ t.wt = v := by
          rcases hv with ⟨h0, _⟩ | ⟨_, h1, h2⟩
          · omega
          · exact ⟨h1, h2⟩
        obtain ⟨hvr, t, hrt, htw⟩ := hv1
        have HR : Hid (RdA gs S (ws.take (i + 1)) (ts ++ [t]) ∧ s + v = 1 + Tm.wts (ts ++ [t])) := Lib.hid ⟨RdA.snoc hR.out.1 hx2.out (by rw [hxx.out]; exact hrt), by
          have h5 := hR.out.2
          rw [Tm.wts_append, Tm.wts, Tm.wts, htw]
          omega⟩
        have hsv : s + v ≤ most := by omega
        clear hv hrt htw hR
        go_wp2_with fail
        exact ⟨⟨i + 1, s + v, n1, ts ++ [t], by omega, rfl, rfl, HR, hsv, by omega, by have := hn2 (by omega); omega, HC⟩, by simp [intOf]; omega⟩
    · have e : i = m := by omega
      subst e
      have hd1 : decide ((i : Int) < (i : Int)) = false := decide_eq_false (by omega)
      have HP : Hid (RdA gs S ws ts ∧ s = 1 + Tm.wts ts) := Lib.hid (by
        have := hR.out
        rw [List.take_of_length_le (by omega)] at this
        exact this)
      clear hR
      go_wp2
      go_ret
      exact ⟨s, n', rfl, .inr ⟨by omega, hs, ts, HP.out.1, HP.out.2.symm⟩, by omega, H.out.2.1, by omega, fun _ => by omega, H.out.1⟩
end
end Go.Proofs.YtejmmjedognaaaaGreat

namespace Go.Proofs.YtejmmjedognaaaaGreat
open Go.RowKit
open St

section
variable {gs : List Frg} {S : List Slt} {x : Int}
set_option maxRecDepth 100000 in
theorem objO_outO {k : Int} {ws : List Int} (h : objO gs x = some (k, ws)) : outO gs x = some (k, ws) ∧ formO gs k ws = true := by
  unfold objO at h
  cases e : outO gs x with
  | none => rw [e] at h; cases h
  | some p =>
    obtain ⟨k', ws'⟩ := p
    rw [e] at h
    simp only at h
    split at h
    · next hf => cases h; exact ⟨rfl, hf⟩
    · cases h
set_option maxRecDepth 100000 in
theorem formO_k {k : Int} {ws : List Int} (h : formO gs k ws = true) : -1 ≤ k ∧ k ≤ 5 := by
  unfold formO at h
  repeat' split at h
  all_goals first | omega | cases h
set_option maxRecDepth 100000 in
theorem lfO_ok {k : Int} {ws : List Int} {t : Tm} (hf : formO gs k ws = true) (hk : 1 ≤ k ∧ k ≤ 5) (h1 : 0 ≤ ws.getD 1 0) (h2 : 0 ≤ ws.getD 2 0) (h : lfO gs S k ws = some t) : t.Ok ∧ t.wt ≤ 300 := by
  by_cases e1 : k = 1
  · subst e1
    have hbg : bgB ws = true := hf
    have hlo : lfO gs S 1 ws = some (bgT ws) := rfl
    rw [hlo] at h
    cases h
    simp only [bgB, Bool.and_eq_true, decide_eq_true_eq] at hbg
    refine ⟨bgT_ok (by omega), ?_⟩
    have h3 := bgM_len (bgl (ws.drop 1))
    rw [bgl_len, List.length_drop] at h3
    have e : (bgT ws).wt = 1 + (bgM (bgl (ws.drop 1))).length := by
      unfold bgT
      rw [Tm.wt]
      exact if_pos rfl
    rw [e]
    omega
  · by_cases e2 : k = 2
    · subst e2
      have hlo : lfO gs S 2 ws = some (flT (ws.getD 0 0)) := rfl
      rw [hlo] at h
      cases h
      simp [flT, Tm.Ok, Tm.Oks, Tm.wt, ByteArray.size]
    · have hs := txO_size (S := S) hf (by omega) h1 h2
      unfold lfO at h
      rw [if_neg e1, if_neg e2] at h
      split at h
      · cases h
        refine ⟨?_, ?_⟩
        · unfold biT
          rw [Tm.ok_mk]
          exact ⟨by simp, by omega, fun t ht => by cases ht⟩
        · simp only [biT, Tm.wt]
          simp
          omega
      · cases h
end

section
variable (gs : List Frg) (S : List Slt) (mv : Value) (SA : Option Addr) (sm sc : Nat) (kv : Value)
set_option maxRecDepth 100000 in
set_option maxRecDepth 100000 in
set_option maxHeartbeats 8000000 in
theorem weighed_c (most : Nat) (ih : PartsC gs S mv SA sm sc kv most) : WeighedC gs S mv SA sm sc kv most := by
  intro w n x hx hpl h45 hn hK hM
  obtain ⟨wa, hwa⟩ : ∃ wa, wa = w.alloc (.cells #[mv, .slice SA sm sc, kv] 68) := ⟨_, rfl⟩
  have hba : Below w.heap.size w wa := by rw [hwa]; exact (Below.refl _ w).alloc (Nat.le_refl _) _
  have rd : Rdr wa w.heap.size mv SA sm sc kv := by rw [hwa]; exact Rdr.new _ _ _ _ _ _
  have hMa := hM.below hba
  have hKa := hK.below hba
  have hCa := Ch.below hK hba
  have HO := Lib.hid (objectAt_any hMa.mm hMa.gs1 x hx)
  have HI := Lib.hid ih
  have H0 := Lib.hid (And.intro hCa (And.intro hKa (And.intro hMa rd)))
  clear hM hK hba hMa hKa hCa ih
  have q0 := rd.c0
  have q1 := rd.c1
  have q2 := rd.c2
  clear rd
  cases ho : objO gs x with
  | none =>
    rw [ho] at HO
    have HN := Lib.hid (fun t => rd_none (S := S) (t := t) h45 ho)
    clear ho h45
    go_enter Tryz.func53, Tryz.ntmps53
    go_upto_region 1 with fail
    rw [← hwa]
    clear hwa
    generalize hD : w.heap.size = D at *
    go_wp2_with (go_at_call 55; (with_reducible refine HO.out.mono ?_); rintro e w1 ⟨⟨-, rfl⟩ | ⟨k, ws, A, n1, c, hk, -⟩, hb1⟩; rotate_left 1; (cases hk); replace hb1 := Lib.hid hb1)
    go_ret
    have hb2 : Below wa.heap.size wa (w1.alloc (.cells #[.int .i64 0, .slice none 0 0] 93)) := hb1.out.alloc hb1.out.size _
    exact ⟨0, n, rfl, .inl ⟨rfl, fun t ht => (HN.out t ht).elim⟩, by omega, H0.out.2.1.below hb2, by omega, fun h => by omega, H0.out.1.bel hb2⟩
  | some p =>
    obtain ⟨k, ws⟩ := p
    obtain ⟨hou, hfm⟩ := objO_outO ho
    have hkr := formO_k hfm
    rw [ho] at HO
    have hwl := outO_len H0.out.2.2.1.gs1 hou
    have HNd := Lib.hid (fun (hk : k = -1 ∨ k = 0) t => rd_node (S := S) (t := t) hpl h45 ho hk)
    have HLf := Lib.hid (fun (hk : ¬ (k = -1 ∨ k = 0)) t => rd_leaf (S := S) (t := t) hpl h45 ho hk)
    clear ho h45 hpl hou
    go_enter Tryz.func53, Tryz.ntmps53
    go_upto_region 1 with fail
    rw [← hwa]
    clear hwa
    generalize hD : w.heap.size = D at *
    go_upto_region 2 with (go_at_call 55; (with_reducible refine HO.out.mono ?_); rintro e w1 ⟨⟨hk, -⟩ | ⟨k', ws', A, n1, c, hk, rfl, hz⟩, hb1⟩; (cases hk); (cases hk))
    obtain ⟨w2, hw2⟩ : ∃ w2, w2 = w1.alloc (.cells #[.int .i64 k, .slice A n1 c] 93) := ⟨_, rfl⟩
    rw [← hw2]
    have hb2 : Below w1.heap.size w1 w2 := by rw [hw2]; exact (Below.refl _ w1).alloc (Nat.le_refl _) _
    have nb : Ob w2 w1.heap.size k A n1 c := by rw [hw2]; exact Ob.new _ _ _ _ _
    have hb12 := hb1.trans (hb2.mono hb1.size)
    have hz2 := hz.below hb2
    have hn1 : n1 ≤ 1000 := by rw [← hz.len]; exact hwl
    have rd2 := H0.out.2.2.2.below hb12 H0.out.2.2.2.lt
    have hM2 := H0.out.2.2.1.below hb12
    have hK2 := H0.out.2.1.below hb12
    have hC2 := H0.out.1.bel hb12
    have p0 := nb.c0
    have p1 := nb.c1
    have r0 := rd2.c0
    have r1 := rd2.c1
    have r2 := rd2.c2
    generalize hE : w1.heap.size = E at *
    by_cases hk : k = -1 ∨ k = 0
    · have HP := Lib.hid (HI.out w2 n A n1 c ws hz2 hn1 hn hK2 hM2)
      have HN := Lib.hid (HNd.out hk)
      have HC := Lib.hid hC2
      have hd : (k == -1) = true ∨ ((k == -1) = false ∧ (k == 0) = true) := by
        rcases hk with rfl | rfl
        · exact .inl rfl
        · exact .inr ⟨rfl, rfl⟩
      clear hw2 hb1 hb2 hb12 hz hz2 hK2 hM2 hC2 rd2 nb hk HNd HLf HO HI H0 q0 q1 q2 hkr hfm
      rcases hd with hd | ⟨hd, hd2⟩
      all_goals
        go_wp2_with (go_at_call 82; (with_reducible refine HP.out.mono ?_); rintro e w3 ⟨v, n', rfl, hv, hv9, hK3, hn2, hn3, hC3⟩; replace hC3 := Lib.hid hC3; replace hK3 := Lib.hid hK3; replace hv := Lib.hid hv; replace hn3 := Lib.hid hn3)
        go_ret
        refine ⟨v, n', rfl, ?_, hv9, hK3.out, hn2, hn3.out, HC.out.trans hC3.out⟩
        rcases hv.out with ⟨h0, h1⟩ | ⟨h0, h1, ts, h2, h3⟩
        · refine .inl ⟨h0, fun t ht => ?_⟩
          obtain ⟨ts, rfl, hts⟩ := (HN.out t).1 ht
          rw [ndT_wt]
          exact h1 ts hts
        · exact .inr ⟨h0, _, (HN.out _).2 ⟨ts, rfl, h2⟩, by rw [ndT_wt]; exact h3⟩
    · have hk5 : 1 ≤ k ∧ k ≤ 5 := by omega
      have HLe := Lib.hid (leaf_any hM2.mm hM2.gs1 hM2.sl hM2.sm1 kv hz2 hn1 k hk5 hfm)
      have HN := Lib.hid (HLf.out hk)
      have hnn : ∀ j, 0 ≤ ws.getD j 0 := fun j => by
        by_cases hj : j < n1
        · exact (wf_u (hz.wfAt hj)).1
        · rw [List.getD_eq_getElem?_getD, List.getElem?_eq_none (by rw [hz.len]; omega)]
          exact Int.le_refl 0
      have HOk := Lib.hid (fun t (ht : lfO gs S k ws = some t) => lfO_ok hfm hk5 (hnn 1) (hnn 2) ht)
      have HC := Lib.hid hC2
      have HK := Lib.hid hK2
      have d1 : (k == -1) = false := beq_eq_false_iff_ne.2 (by omega)
      have d2 : (k == 0) = false := beq_eq_false_iff_ne.2 (by omega)
      clear hw2 hb1 hb2 hb12 hz hz2 hK2 hM2 hC2 rd2 nb hk HNd HLf HO HI H0 q0 q1 q2 hkr hfm hnn hk5
      generalize lfO gs S k ws = lo at *
      cases lo with
      | none =>
        go_wp2_with (go_at_call 57; (with_reducible refine HLe.out.mono ?_); rintro e w3 ⟨⟨R, rfl, -⟩, hb3⟩; replace hb3 := Lib.hid hb3)
        go_ret
        have hb4 : Below w2.heap.size w2 (w3.alloc (.cells #[.int .i64 R.k, .int .i64 R.n, .bool R.g, .slice R.A R.ln R.lc, .int .u64 R.u, .string R.s, .slice R.B R.m R.d] 40)) := hb3.out.alloc hb3.out.size _
        exact ⟨0, n, rfl, .inl ⟨rfl, fun t ht => by have := (HN.out t).1 ht; cases this⟩, by omega, HK.out.below hb4, by omega, fun h => by omega, HC.out.bel hb4⟩
      | some t =>
        obtain ⟨hok, hwt⟩ := HOk.out t rfl
        have hcap : t.cap = t.wt := by unfold Tm.cap; omega
        have hwp := Tm.wt_pos t
        have HRd := Lib.hid ((HN.out t).2 rfl)
        go_upto_region 8 with (go_at_call 57; (with_reducible refine HLe.out.mono ?_); rintro e w3 ⟨⟨R, rfl, hR⟩, hb3⟩; replace hR := Lib.hid hR)
        obtain ⟨hT, _, hRm⟩ := hR.out t rfl
        replace hRm := Lib.hid hRm
        obtain ⟨w4, hw4⟩ : ∃ w4, w4 = w3.alloc (.cells #[.int .i64 R.k, .int .i64 R.n, .bool R.g, .slice R.A R.ln R.lc, .int .u64 R.u, .string R.s, .slice R.B R.m R.d] 40) := ⟨_, rfl⟩
        have hb4 : Below w3.heap.size w3 w4 := by rw [hw4]; exact (Below.refl _ w3).alloc (Nat.le_refl _) _
        have bx : Box7 w4 w3.heap.size R := by rw [hw4]; exact Box7.new w3 R
        have HWg := Lib.hid (weight_any w4 R t (hT.bel hb4) hok)
        have hb5 : Below w2.heap.size w2 w4 := hb3.trans (hb4.mono hb3.size)
        rw [← hw4]
        rw [hcap] at HWg
        replace hb5 := Lib.hid hb5
        have y0 := bx.at.c0; have y1 := bx.at.c1; have y2 := bx.at.c2; have y3 := bx.at.c3; have y4 := bx.at.c4; have y5 := bx.at.c5; have y6 := bx.at.c6
        clear hw4 hb4 hb3 hT hR HLe bx
        obtain ⟨tw, htw⟩ : ∃ tw, t.wt = tw := ⟨_, rfl⟩
        rw [htw] at HWg hwt hwp
        replace htw := Lib.hid htw
        generalize w3.heap.size = G at *
        clear hcap hok HOk HN
        go_wp2_with (go_at_call 83; (with_reducible refine HWg.out.mono ?_); rintro e w5 ⟨rfl, hb6⟩; replace hb6 := Lib.hid hb6)
        go_ret
        have hb7 := hb5.out.trans (hb6.out.mono hb5.out.size)
        exact ⟨tw, n, rfl, .inr ⟨by omega, t, HRd.out, htw.out⟩, by omega, HK.out.below hb7, by omega, fun h => by omega, HC.out.bel hb7⟩
end
end Go.Proofs.YtejmmjedognaaaaGreat
