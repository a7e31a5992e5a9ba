/-
  PACKAGE look: term, terms.
  PACKAGE look: term.
-/
import Derived.Test.YtejmmjedognaaaaGreatMv28
import Derived.Test.YtejmmjedognaaaaGreatMv31
import Derived.Test.YtejmmjedognaaaaGreatMv32
namespace Go.Proofs.YtejmmjedognaaaaGreat
open Go.RowKit
open St

/-- A record that has nothing but parts. -/
def rowT (B : Option Addr) (m d : Nat) : TR := ⟨0, 0, false, none, 0, 0, 0, ⟨#[]⟩, B, m, d⟩
/-- Limbs in a row that was made. -/
def LmT (S : Nat → Prop) (w : World) (A : Option Addr) (n c : Nat) : Prop := (n = 0 ∧ A = none ∧ c = 0) ∨ ∃ g cs, S g ∧ A = some ⟨g, 0, none⟩ ∧ Rw w g c cs ∧ n ≤ c ∧ c ≤ maxLen
set_option maxRecDepth 100000 in
theorem LmT.own {S : Nat → Prop} {w : World} {base : Nat} {A : Option Addr} {n c : Nat} {l : List Nat} (h : Own w base A n c l) (hS : ∀ b, base ≤ b → S b) : LmT S w A n c := by
  rcases h.2.2.2 with ⟨hv, h0⟩ | ⟨g, cap, cur, hv, hb, hg, h1, h2, h3, h4⟩
  · injection hv with hA _ hc
    exact .inl ⟨h0, hA, hc⟩
  · injection hv with hA _ hc
    subst hA hc
    exact .inr ⟨g, cur, hS g hb, rfl, ⟨hg, by rw [h3, Nat.mul_one]⟩, h1, h2⟩
/-- What a call leaves that makes a term, or terms, in rows of their own. -/
def TrmP (w : World) (t : Tm) (e : Ending) (w' : World) : Prop := ∃ R : TR, e = .returned (.agg #[.int .i64 R.k, .int .i64 R.n, .bool R.g, .slice R.A R.ln R.lc, .int .u64 R.u, .string R.s, .slice R.B R.m R.d]) ∧ TVS (fun b => w.heap.size ≤ b) w' R t ∧ Sfe (fun b => w.heap.size ≤ b) w' R ∧ Below w.heap.size w w'
def TrmsP (w : World) (ts : List Tm) (e : Ending) (w' : World) : Prop := ∃ B m d, e = .returned (.slice B m d) ∧ TVSs (fun b => w.heap.size ≤ b) w' B m d ts ∧ Sfe (fun b => w.heap.size ≤ b) w' (rowT B m d) ∧ Below w.heap.size w w'

/-- What stands while terms are read one by one: the new row at g, so many elements of it done. -/
structure Tj (b0 : Nat) (ts : List Tm) (m g j : Nat) (W : World) : Prop where
  pg : b0 ≤ g
  row : ∃ (cs : Array Value) (V : Nat → TR), W.heap[g]? = some (.cells cs 40 (0, 0)) ∧ cs.size = m * 7 ∧ (∀ i, i < j → ∀ k, k < 7 → cs[i * 7 + k]? = (V i).cells[k]?) ∧
    (∀ i t, i < j → ts[i]? = some t → TVS (fun b => b0 ≤ b ∧ b ≠ g) W (V i) t) ∧ ∀ i, i < j → Sfe (fun b => b0 ≤ b ∧ b ≠ g) W (V i)
section
variable {b0 : Nat} {ts : List Tm} {m g j : Nat} {W W' : World}
set_option maxRecDepth 100000 in
theorem Tj.glt (h : Tj b0 ts m g j W) : g < W.heap.size := by
  obtain ⟨cs, V, h1, _⟩ := h.row
  exact (Array.getElem?_eq_some_iff.1 h1).1
set_option maxRecDepth 100000 in
theorem Tj.below (h : Tj b0 ts m g j W) (hb : Below W.heap.size W W') : Tj b0 ts m g j W' := by
  obtain ⟨cs, V, h1, h2, h3, h4, h5⟩ := h.row
  exact ⟨h.pg, cs, V, (hb.block _ h.glt).trans h1, h2, h3, fun i t hi e => (h4 i t hi e).keep (hb.keeps _), fun i hi => (h5 i hi).keep (hb.keeps _)⟩
set_option maxRecDepth 100000 in
theorem Tj.cell (h : Tj b0 ts m g j W) {x : Nat} (hx : x < m * 7) : ∃ v, W.cell? ⟨g, x, none⟩ = some v := by
  obtain ⟨cs, V, h1, h2, _⟩ := h.row
  exact ⟨cs[x]'(by omega), by rw [cell_of_row W g x cs _ (0, 0) h1]; exact Array.getElem?_eq_getElem (by omega)⟩
set_option maxRecDepth 100000 in
theorem Tj.frozen (h : Tj b0 ts m g j W) (x : Nat) : W.frozen? ⟨g, x, none⟩ = false := by
  obtain ⟨cs, V, h1, _⟩ := h.row
  simp [World.frozen?, h1]
set_option maxRecDepth 100000 in
theorem Tj.set (h : Tj b0 ts m g j W) {x : Nat} (hx : j * 7 ≤ x) (v : Value) : Tj b0 ts m g j (W.setCell ⟨g, x, none⟩ v) := by
  obtain ⟨cs, V, h1, h2, h3, h4, h5⟩ := h.row
  refine ⟨h.pg, cs.setIfInBounds x v, V, ?_, by simp [h2], fun i hi k hk => ?_, fun i t hi e => (h4 i t hi e).keep ((Keeps.refl _ _).setCell (by simp) v), fun i hi => (h5 i hi).keep ((Keeps.refl _ _).setCell (by simp) v)⟩
  · simp [World.setCell, Array.getElem?_modify, h1]
  · rw [Array.getElem?_setIfInBounds_ne (by omega)]
    exact h3 i hi k hk
set_option maxRecDepth 100000 in
theorem Tj.put (h : Tj b0 ts m g j W) (r : TR) : Tj b0 ts m g j (put7o W g (j * 7) r) :=
  ((((((h.set (x := j * 7) (by omega) _).set (x := j * 7 + 1) (by omega) _).set (x := j * 7 + 2) (by omega) _).set (x := j * 7 + 3) (by omega) _).set (x := j * 7 + 4) (by omega) _).set (x := j * 7 + 5) (by omega) _).set (x := j * 7 + 6) (by omega) _
set_option maxRecDepth 100000 in
theorem Tj.step (h : Tj b0 ts m g j W) {R : TR} {t : Tm} (ht : ts[j]? = some t) (hR : TVS (fun b => b0 ≤ b ∧ b ≠ g) W R t) (hF : Sfe (fun b => b0 ≤ b ∧ b ≠ g) W R) (h7 : At7 W g (j * 7) R) : Tj b0 ts m g (j + 1) W := by
  obtain ⟨cs, V, h1, h2, h3, h4, h5⟩ := h.row
  refine ⟨h.pg, cs, fun i => if i < j then V i else R, h1, h2, fun i hi k hk => ?_, fun i x hi e => ?_, fun i hi => ?_⟩
  · by_cases hij : i < j
    · simp only [hij, if_true]; exact h3 i hij k hk
    · have : i = j := by omega
      subst this
      simp only [hij, if_false]
      have hc : ∀ k, W.cell? ⟨g, i * 7 + k, none⟩ = cs[i * 7 + k]? := fun k => cell_of_row W g _ cs _ (0, 0) h1
      rw [← hc]
      have hk' : k = 0 ∨ k = 1 ∨ k = 2 ∨ k = 3 ∨ k = 4 ∨ k = 5 ∨ k = 6 := by omega
      rcases hk' with rfl | rfl | rfl | rfl | rfl | rfl | rfl
      · exact h7.c0
      · exact h7.c1
      · exact h7.c2
      · exact h7.c3
      · exact h7.c4
      · exact h7.c5
      · exact h7.c6
  · by_cases hij : i < j
    · simp only [hij, if_true]; exact h4 i x hij e
    · have : i = j := by omega
      subst this
      simp only [hij, if_false]
      rw [ht] at e
      cases e
      exact hR
  · by_cases hij : i < j
    · simp only [hij, if_true]; exact h5 i hij
    · simp only [hij, if_false]
      exact hF
set_option maxRecDepth 100000 in
theorem Tj.all (h : Tj b0 ts m g m W) (hl : ts.length = m) (hm : m ≤ 100000) : TVSs (fun b => b0 ≤ b) W (some ⟨g, 0, none⟩) m m ts ∧ Sfe (fun b => b0 ≤ b) W (rowT (some ⟨g, 0, none⟩) m m) := by
  obtain ⟨cs, V, h1, h2, h3, h4, h5⟩ := h.row
  have hpg := h.pg
  have h7 : ∀ i, i < m → At7 W g (i * 7) (V i) := fun i hi => At7.of fun k hk => by
    rw [add_none, cell_of_row W g _ cs _ (0, 0) h1]
    exact h3 i hi k hk
  refine ⟨⟨hl, Nat.le_refl _, by unfold maxLen; omega, fun _ a e => by cases e; exact hpg, V, fun _ => ⟨g, 0, rfl, h.glt, fun i hi => ?_⟩, fun i t e => ?_⟩, ?_⟩
  · rw [Nat.zero_add]
    exact h7 i hi
  · have hi : i < m := by rw [← hl]; exact (List.getElem?_eq_some_iff.1 e).1
    exact (h4 i t hi e).mono fun b hb => hb.1
  · exact .mk _ V (by simp [rowT]) hm (.inl ⟨rfl, rfl, rfl⟩) (fun _ => ⟨g, cs, hpg, rfl, h1, h7⟩) (fun i hi => (h5 i hi).mono (fun b _ hb => hb.1))
end

set_option maxRecDepth 100000 in
theorem below_p7o {D : Nat} {w w' : World} {g : Nat} (h : Below D w w') (hg : D ≤ g) (x : Nat) (R : TR) : Below D w (put7o w' g x R) :=
  ((((((h.setCell (p := ⟨g, x, none⟩) hg _).setCell (p := ⟨g, x + 1, none⟩) hg _).setCell (p := ⟨g, x + 2, none⟩) hg _).setCell (p := ⟨g, x + 3, none⟩) hg _).setCell (p := ⟨g, x + 4, none⟩) hg _).setCell (p := ⟨g, x + 5, none⟩) hg _).setCell (p := ⟨g, x + 6, none⟩) hg _
set_option maxRecDepth 100000 in
theorem keeps_p7o {S : Nat → Prop} {w : World} {g : Nat} (hg : ¬ S g) (x : Nat) (R : TR) : Keeps S w (put7o w g x R) :=
  (((((((Keeps.refl S w).setCell (p := ⟨g, x, none⟩) hg _).setCell (p := ⟨g, x + 1, none⟩) hg _).setCell (p := ⟨g, x + 2, none⟩) hg _).setCell (p := ⟨g, x + 3, none⟩) hg _).setCell (p := ⟨g, x + 4, none⟩) hg _).setCell (p := ⟨g, x + 5, none⟩) hg _).setCell (p := ⟨g, x + 6, none⟩) hg _
set_option maxRecDepth 100000 in
theorem Tj.more {b0 : Nat} {ts : List Tm} {m g j B : Nat} {W : World} (h : Tj b0 ts m g j W) {R : TR} {t : Tm} (hj : j < m) (ht : ts[j]? = some t) (hR : TVS (fun b => B ≤ b) W R t) (hF : Sfe (fun b => B ≤ b) W R) (h0 : b0 ≤ B) (hg : g < B) : Tj b0 ts m g (j + 1) (put7o W g (j * 7) R) :=
  (h.put R).step ht ((hR.mono (S' := fun b => b0 ≤ b ∧ b ≠ g) (fun b hb => ⟨by omega, by omega⟩)).keep (keeps_p7o (by simp) _ R)) ((hF.mono (S' := fun b => b0 ≤ b ∧ b ≠ g) (fun b _ hb => ⟨by omega, by omega⟩)).keep (keeps_p7o (by simp) _ R)) (put7o_at R (fun k hk => h.cell (x := j * 7 + k) (by omega)))

set_option maxRecDepth 100000 in
set_option maxRecDepth 100000 in
set_option maxHeartbeats 8000000 in
theorem terms_c {gs : List Frg} {S : List Slt} {mv : Value} {SA : Option Addr} {sm sc : Nat} {kv : Value} {w : World} {A : Option Addr} {m c : Nat} {ws : List Int} {ts : List Tm}
    (ih : ∀ t ∈ ts, ∀ (w : World) (x : Int), Wd x → Rd gs S x t → Mem gs S mv SA sm sc w → Calls Tryz.prog 27 #[.agg #[mv, .slice SA sm sc, kv], .int .u64 x] w (TrmP w t))
    (hz : Zs .u64 w A m c ws) (hm : m ≤ 1000) (hr : RdA gs S ws ts) (hM : Mem gs S mv SA sm sc w) :
    Calls Tryz.prog 56 #[.agg #[mv, .slice SA sm sc, kv], .slice A m c] w (TrmsP w ts) := by
  have hl := hz.len
  have htl := hr.len
  obtain ⟨wa, hwa⟩ : ∃ wa, wa = w.alloc (.cells #[mv, .slice SA sm sc, kv] 68) := ⟨_, rfl⟩
  have hba : Below w.heap.size w wa := by rw [hwa]; exact (Below.refl _ w).alloc (Nat.le_refl _) _
  have rd : Rdr wa w.heap.size mv SA sm sc kv := by rw [hwa]; exact Rdr.new _ _ _ _ _ _
  have IH := Lib.hid ih
  have HW := Lib.hid (And.intro hM hz)
  have HA : Hid (0 < m → ∃ b o, A = some ⟨b, o, none⟩) := Lib.hid (fun h => by
    obtain ⟨b, o, e, _⟩ := hz.some h
    exact ⟨b, o, e⟩)
  have hmk := make_terms m (by omega)
  obtain ⟨g, hg⟩ : ∃ g, g = wa.heap.size := ⟨_, rfl⟩
  obtain ⟨wb, hwb⟩ : ∃ wb, wb = wa.alloc (.cells (madeCells (Value.cells (.agg #[.int .i64 zeroR.k, .int .i64 zeroR.n, .bool zeroR.g, .slice zeroR.A zeroR.ln zeroR.lc, .int .u64 zeroR.u, .string zeroR.s, .slice zeroR.B zeroR.m zeroR.d])) (m * 7)) 40) := ⟨_, rfl⟩
  have hbb : Below wa.heap.size wa wb := by rw [hwb]; exact (Below.refl _ wa).alloc (Nat.le_refl _) _
  have J0 : Tj w.heap.size ts m g 0 wb := by
    refine ⟨by rw [hg]; exact hba.size, madeCells (Value.cells (.agg #[.int .i64 zeroR.k, .int .i64 zeroR.n, .bool zeroR.g, .slice zeroR.A zeroR.ln zeroR.lc, .int .u64 zeroR.u, .string zeroR.s, .slice zeroR.B zeroR.m zeroR.d])) (m * 7), fun _ => default, ?_, size_madeCells _ _, fun i hi => absurd hi (by omega), fun i t hi => absurd hi (by omega), fun i hi => absurd hi (by omega)⟩
    rw [hg, hwb]
    exact heap_alloc_new wa _
  have H0 := Lib.hid (And.intro (hba.trans (hbb.mono hba.size)) (And.intro (rd.below hbb rd.lt) J0))
  have hgD : w.heap.size ≤ g := by rw [hg]; exact hba.size
  have hwa2 : wa.heap.size = w.heap.size + 1 := by rw [hwa]; simp
  have hgD1 : w.heap.size < g := by omega
  clear hz hM hba hbb rd ih J0 hwa2
  replace hl := Lib.hid hl
  replace htl := Lib.hid htl
  replace hr := Lib.hid hr
  go_enter Tryz.func56, Tryz.ntmps56
  go_upto_region 1 with fail
  rw [← hwa]
  clear hwa
  generalize hD : w.heap.size = D at *
  replace hD := Lib.hid hD
  go_wp2_with fail
  simp only [Value.cells] at hwb
  rw [← hg]
  first | rw [← hwb] | (trace_state; fail)
  clear hwb hmk hg
  go_loopw [13] (fun v13 wx => ∃ i : Nat, i ≤ m ∧ v13 = .int .i64 (i : Int) ∧ Hid (Below D w wx ∧ Rdr wx D mv SA sm sc kv ∧ Tj D ts m g i wx)) (fun v13 _ => m - (intOf v13).toNat)
  case atStart => exact ⟨0, Nat.zero_le _, rfl, H0⟩
  case round =>
    clear H0
    obtain ⟨i, hi, rfl, H⟩ := hrel
    by_cases him : i < m
    · have hd1 : decide ((i : Int) < (m : Int)) = true := decide_eq_true (by omega)
      obtain ⟨b, o, hA⟩ := HA.out (by omega)
      subst hA
      obtain ⟨hB, rd, J⟩ := H.out
      have hBw : Below w.heap.size w wr := by rw [hD.out]; exact hB
      have hz := HW.out.2.below hBw
      have y0 := hz.at_ him
      have hx := wf_u (hz.wfAt him)
      obtain ⟨t, ht, hrt⟩ := hr.out.get (i := i) (by rw [hl.out]; exact him)
      have HT := Lib.hid (IH.out t (List.mem_of_getElem? ht) wr (ws.getD i 0) hx hrt (HW.out.1.below hBw))
      have q0 := rd.c0
      have q1 := rd.c1
      have q2 := rd.c2
      replace ht := Lib.hid ht
      clear hB rd J hBw hz hrt
      generalize ws.getD i 0 = x at *
      go_upto_region 6 with (go_at_call 27; (with_reducible refine HT.out.mono ?_); rintro e w1 ⟨R, rfl, hR, hF, hb1⟩; obtain ⟨v0, p0⟩ := (H.out.2.2.below hb1).cell (x := i * 7) (by omega); obtain ⟨v1, p1⟩ := (H.out.2.2.below hb1).cell (x := i * 7 + 1) (by omega); obtain ⟨v2, p2⟩ := (H.out.2.2.below hb1).cell (x := i * 7 + 2) (by omega); obtain ⟨v3, p3⟩ := (H.out.2.2.below hb1).cell (x := i * 7 + 3) (by omega); obtain ⟨v4, p4⟩ := (H.out.2.2.below hb1).cell (x := i * 7 + 4) (by omega); obtain ⟨v5, p5⟩ := (H.out.2.2.below hb1).cell (x := i * 7 + 5) (by omega); obtain ⟨v6, p6⟩ := (H.out.2.2.below hb1).cell (x := i * 7 + 6) (by omega); have f0 := (H.out.2.2.below hb1).frozen (i * 7); have f1 := (H.out.2.2.below hb1).frozen (i * 7 + 1); have f2 := (H.out.2.2.below hb1).frozen (i * 7 + 2); have f3 := (H.out.2.2.below hb1).frozen (i * 7 + 3); have f4 := (H.out.2.2.below hb1).frozen (i * 7 + 4); have f5 := (H.out.2.2.below hb1).frozen (i * 7 + 5); have f6 := (H.out.2.2.below hb1).frozen (i * 7 + 6); replace hR := Lib.hid hR; replace hF := Lib.hid hF; replace hb1 := Lib.hid hb1)
      change Code.wp _ _ _ _ (put7o w1 g (i * 7) R)
      have HN : Hid (Below D w (put7o w1 g (i * 7) R) ∧ Rdr (put7o w1 g (i * 7) R) D mv SA sm sc kv ∧ Tj D ts m g (i + 1) (put7o w1 g (i * 7) R)) := Lib.hid (by
        have hsz : D ≤ wr.heap.size := by have h9 := H.out.1.size; rw [hD.out] at h9; exact h9
        refine ⟨below_p7o (H.out.1.trans (hb1.out.mono hsz)) hgD _ R, ?_, (H.out.2.2.below hb1.out).more him ht.out hR.out hF.out hsz H.out.2.2.glt⟩
        exact (H.out.2.1.below hb1.out H.out.2.1.lt).below (below_p7o (Below.refl (D + 1) _) hgD1 _ R) (Nat.lt_succ_self D))
      clear v0 v1 v2 v3 v4 v5 v6 p0 p1 p2 p3 p4 p5 p6 f0 f1 f2 f3 f4 f5 f6 y0 q0 q1 q2 H hR hF hb1
      generalize put7o w1 g (i * 7) R = W1 at *
      go_wp2_with fail
      exact ⟨⟨i + 1, by omega, rfl, HN⟩, by simp [intOf]; omega⟩
    · have e : i = m := by omega
      subst e
      have hd1 : decide ((i : Int) < (i : Int)) = false := decide_eq_false (by omega)
      go_wp2
      go_ret
      have h9 := H.out.2.2.all (by rw [htl.out]; exact hl.out) (by omega)
      exact ⟨some ⟨g, 0, none⟩, i, i, rfl, by rw [hD.out]; exact h9.1, by rw [hD.out]; exact h9.2, by rw [hD.out]; exact H.out.1⟩
end Go.Proofs.YtejmmjedognaaaaGreat

namespace Go.Proofs.YtejmmjedognaaaaGreat
open Go.RowKit
open St

set_option maxRecDepth 100000 in
theorem sfe_own {w : World} {base : Nat} {R : TR} {l : List Nat} (ho : Own w base R.A R.ln R.lc l) (hm : R.m = 0) (hn : R.ln ≤ 1000) : Sfe (fun b => base ≤ b) w R :=
  .mk R (fun _ => default) hn (by omega) (LmT.own ho (fun _ h => h)) (fun h => by omega) (fun i h => by omega)
set_option maxRecDepth 100000 in
theorem tvS_own {w : World} {base : Nat} {R : TR} {t : Tm} (h : TV w R t) (ho : Own w base R.A R.ln R.lc t.mag) (hm : R.m = 0) : TVS (fun b => base ≤ b) w R t := by
  have hT := sfe_own (l := t.mag) ho hm
  cases h with
  | mk _ l ks V hf hkm hs hk =>
    refine .mk R l ks V hf hkm hs ⟨fun _ a e => ?_, fun h => by omega⟩ (fun i t e => ?_)
    · rcases LmT.own (S := fun b => base ≤ b) ho (fun _ h => h) with ⟨_, h2, _⟩ | ⟨g, cs, hg, hA, _⟩
      · rw [h2] at e; cases e
      · rw [hA] at e; cases e; exact hg
    · have : ks = [] := List.eq_nil_of_length_eq_zero (by omega)
      rw [this] at e
      simp at e
set_option maxRecDepth 100000 in
theorem LmT.mono {S S' : Nat → Prop} {w : World} {A : Option Addr} {n c : Nat} (h : LmT S w A n c) (hS : ∀ b, b < w.heap.size → S b → S' b) : LmT S' w A n c := by
  rcases h with h | ⟨g, cs, hs, hA, hr, h1, h2⟩
  · exact .inl h
  · exact .inr ⟨g, cs, hS g hr.lt hs, hA, hr, h1, h2⟩
set_option maxRecDepth 100000 in
theorem sfe_lm {S : Nat → Prop} {w : World} {R : TR} (hl : LmT S w R.A R.ln R.lc) (hm : R.m = 0) (hn : R.ln ≤ 1000) : Sfe S w R :=
  .mk R (fun _ => default) hn (by omega) hl (fun h => by omega) (fun i h => by omega)
set_option maxRecDepth 100000 in
theorem tvS_lm {S : Nat → Prop} {w : World} {R : TR} {t : Tm} (h : TV w R t) (hl : LmT S w R.A R.ln R.lc) (hm : R.m = 0) : TVS S w R t := by
  cases h with
  | mk _ l ks V hf hkm hs hk =>
    refine .mk R l ks V hf hkm hs ⟨fun _ a e => ?_, fun h => by omega⟩ (fun i t e => ?_)
    · rcases hl with ⟨_, h2, _⟩ | ⟨g, cs, hg, hA, _⟩
      · rw [h2] at e; cases e
      · rw [hA] at e; cases e; exact hg
    · have : ks = [] := List.eq_nil_of_length_eq_zero (by omega)
      rw [this] at e
      simp at e
set_option maxRecDepth 100000 in
/-- A term of no parts, no limbs. -/
theorem trm_leaf {w w' : World} {k n u : Int} {s : ByteArray} (k0 : -9223372036854775808 ≤ k ∧ k ≤ 9223372036854775807) (n0 : -9223372036854775808 ≤ n ∧ n ≤ 9223372036854775807) (u0 : 0 ≤ u ∧ u ≤ 18446744073709551615) (hs : s.size ≤ maxLen) (hb : Below w.heap.size w w') :
    TrmP w (.mk k n false [] u s []) (.returned (.agg #[.int .i64 k, .int .i64 n, .bool false, .slice none 0 0, .int .u64 u, .string s, .slice none 0 0])) w' := by
  have hT : TV w' ⟨k, n, false, none, 0, 0, u, s, none, 0, 0⟩ (.mk k n false [] u s []) := TV.mk' k0.1 k0.2 n0.1 n0.2 u0.1 u0.2 (Lim.nil _ _ _) (Nat.zero_le _) hs (TVs.nil _ _ _ (Nat.zero_le _))
  have hO : Own w' w.heap.size (none : Option Addr) 0 0 ([] : List Nat) := Own.nil _ _
  exact ⟨⟨k, n, false, none, 0, 0, u, s, none, 0, 0⟩, rfl, tvS_own hT hO rfl, sfe_own hO rfl (by simp), hb⟩
set_option maxRecDepth 100000 in
theorem trm_node {w w1 w' : World} {k : Int} {B : Option Addr} {m d : Nat} {ts : List Tm} (k0 : -9223372036854775808 ≤ k ∧ k ≤ 9223372036854775807) (h : TVSs (fun b => w1.heap.size ≤ b) w' B m d ts) (hs : Sfe (fun b => w1.heap.size ≤ b) w' (rowT B m d)) (hw : w.heap.size ≤ w1.heap.size) (hb : Below w.heap.size w w') :
    TrmP w (.mk k 0 false [] 0 ⟨#[]⟩ ts) (.returned (.agg #[.int .i64 k, .int .i64 0, .bool false, .slice none 0 0, .int .u64 0, .string ⟨#[]⟩, .slice B m d])) w' := by
  refine ⟨mkR k 0 0 ⟨#[]⟩ B m d, rfl, TVS.node (h.mono (fun b hb => Nat.le_trans hw hb)) k0.1 k0.2 (by omega) (by omega) (by omega) (by omega) (by decide), ?_, hb⟩
  have h2 := hs.mono (S' := fun b => w.heap.size ≤ b) (fun b _ hb => Nat.le_trans hw hb)
  cases h2 with
  | mk _ V _ hm _ hbb hk => exact .mk _ V (by simp) hm (.inl ⟨rfl, rfl, rfl⟩) hbb hk
set_option maxRecDepth 100000 in
theorem keeps_p7 {S : Nat → Prop} {w : World} {g : Nat} (hg : ¬ S g) (R : TR) : Keeps S w (put7 w g R) :=
  (((((((Keeps.refl S w).setCell (p := ⟨g, 0, none⟩) hg _).setCell (p := ⟨g, 1, none⟩) hg _).setCell (p := ⟨g, 2, none⟩) hg _).setCell (p := ⟨g, 3, none⟩) hg _).setCell (p := ⟨g, 4, none⟩) hg _).setCell (p := ⟨g, 5, none⟩) hg _).setCell (p := ⟨g, 6, none⟩) hg _
set_option maxRecDepth 100000 in
theorem Box7.same5 {w : World} {g : Nat} {r : TR} (h : Box7 w g r) : Box7 (w.setCell ⟨g, 5, none⟩ (.string r.s)) g r := by
  unfold Box7 at h ⊢
  simp [World.setCell, Array.getElem?_modify, h]
set_option maxRecDepth 100000 in
theorem Box7.off {w : World} {g D : Nat} {r : TR} (h : Box7 w D r) (hn : g ≠ D) (v : Value) : Box7 (w.setCell ⟨g, 5, none⟩ v) D r := by
  unfold Box7 at h ⊢
  rw [Below.heap_setCell _ _ _ _ (fun e => hn e.symm)]
  exact h
set_option maxRecDepth 100000 in
theorem rdr_trm (w : World) (mv : Value) (SA : Option Addr) (sm sc : Nat) (kv : Value) :
    ∃ wb, wb = (w.alloc (.cells #[mv, .slice SA sm sc, kv] 68)).alloc (.cells #[.int .i64 zeroR.k, .int .i64 zeroR.n, .bool zeroR.g, .slice zeroR.A zeroR.ln zeroR.lc, .int .u64 zeroR.u, .string zeroR.s, .slice zeroR.B zeroR.m zeroR.d] 40) ∧ Below w.heap.size w wb ∧ Rdr wb w.heap.size mv SA sm sc kv ∧ Box7 wb (w.heap.size + 1) zeroR ∧ wb.heap.size = w.heap.size + 2 := by
  have hb := (Below.refl w.heap.size w).alloc (Nat.le_refl _) (.cells #[mv, .slice SA sm sc, kv] 68)
  have rd := Rdr.new w mv SA sm sc kv
  have hsz : (w.alloc (.cells #[mv, .slice SA sm sc, kv] 68)).heap.size = w.heap.size + 1 := by simp
  generalize w.alloc (.cells #[mv, .slice SA sm sc, kv] 68) = wa at *
  have hb2 := (Below.refl wa.heap.size wa).alloc (Nat.le_refl _) (.cells #[.int .i64 zeroR.k, .int .i64 zeroR.n, .bool zeroR.g, .slice zeroR.A zeroR.ln zeroR.lc, .int .u64 zeroR.u, .string zeroR.s, .slice zeroR.B zeroR.m zeroR.d] 40)
  refine ⟨_, rfl, hb.trans (hb2.mono hb.size), rd.below hb2 rd.lt, ?_, by simp; omega⟩
  rw [← hsz]
  exact Box7.new wa zeroR

section
variable (gs : List Frg) (S : List Slt) (mv : Value) (SA : Option Addr) (sm sc : Nat) (kv : Value)
def TermC (t : Tm) : Prop := ∀ (w : World) (x : Int), Wd x → Rd gs S x t → Mem gs S mv SA sm sc w → Calls Tryz.prog 27 #[.agg #[mv, .slice SA sm sc, kv], .int .u64 x] w (TrmP w t)

set_option maxRecDepth 100000 in
set_option maxRecDepth 100000 in
set_option maxHeartbeats 8000000 in
theorem term_c (t : Tm) (ih : ∀ u ∈ t.args, TermC gs S mv SA sm sc kv u) : TermC gs S mv SA sm sc kv t := by
  intro w x hx hr hM
  obtain ⟨wb, hwb, hbb, rd, bx, hsz⟩ := rdr_trm w mv SA sm sc kv
  have HT := Lib.hid (fun w => tag_any x hx w)
  have HL := Lib.hid (fun w => load_any x hx w)
  have hp := hr.plain
  have h5 := plB_lt hp
  have hx0 := hx.1
  have hld := ldZ_in hx
  have HB := Lib.hid hbb
  by_cases hsm : x % 8 ≤ 3
  · have et : t = smT x := hr.det (rd_small hp (by omega) (by omega))
    subst et
    have HTb := Lib.hid bx
    have f0 := bx.frozen 0; have f1 := bx.frozen 1; have f2 := bx.frozen 2; have f3 := bx.frozen 3; have f4 := bx.frozen 4; have f5 := bx.frozen 5; have f6 := bx.frozen 6; have p0 := bx.at.c0; have p1 := bx.at.c1; have p2 := bx.at.c2; have p3 := bx.at.c3; have p4 := bx.at.c4; have p5 := bx.at.c5; have p6 := bx.at.c6
    clear hr hM rd bx ih hbb hp
    simp only at hwb
    have cases4 : x % 8 = 0 ∨ x % 8 = 1 ∨ x % 8 = 2 ∨ x % 8 = 3 := by omega
    rcases cases4 with h | h | h | h
    · have hs : smT x = .mk 1 (ldZ x) false [] 0 ⟨#[]⟩ [] := by unfold smT; rw [if_pos h]; rfl
      have hd : (x % 8 == 0) = true := by rw [h]; rfl
      rw [hs]
      clear hs h hsm h5
      go_enter Tryz.func27, Tryz.ntmps27
      go_upto_region 1 with fail
      rw [← hwb]
      clear hwb
      generalize hD : w.heap.size = D at *
      go_wp2_with (first
        | (go_at_call 52; (with_reducible refine (HT.out _).mono ?_); rintro e w4 ⟨rfl, rfl⟩)
        | (go_at_call 54; (with_reducible refine (HL.out _).mono ?_); rintro e w4 ⟨rfl, rfl⟩))
      have C := (HTb.out.put ⟨1, ldZ x, false, none, 0, 0, 0, ⟨#[]⟩, none, 0, 0⟩).at
      have hB5 := HB.out.put7 (g := D + 1) (by omega) ⟨1, ldZ x, false, none, 0, 0, 0, ⟨#[]⟩, none, 0, 0⟩
      clear f0 f1 f2 f3 f4 f5 f6 p0 p1 p2 p3 p4 p5 p6
      have y0 := C.c0; have y1 := C.c1; have y2 := C.c2; have y3 := C.c3; have y4 := C.c4; have y5 := C.c5; have y6 := C.c6
      clear C
      change bodyPost _ _ _ _ _ (put7 wb (D + 1) ⟨1, ldZ x, false, none, 0, 0, 0, ⟨#[]⟩, none, 0, 0⟩)
      generalize put7 wb (D + 1) ⟨1, ldZ x, false, none, 0, 0, 0, ⟨#[]⟩, none, 0, 0⟩ = W5 at *
      exact bodyPost_ret (v := .agg #[.int .i64 1, .int .i64 (ldZ x), .bool false, .slice none 0 0, .int .u64 0, .string ⟨#[]⟩, .slice none 0 0]) (by simp [results, Tryz.results27, go_sem, y0, y1, y2, y3, y4, y5, y6]) rfl (trm_leaf (by omega) (by omega) (by omega) (by decide) (by rw [hD]; exact hB5))
    · have hs : smT x = .mk 4 (ldZ x) false [] 0 ⟨#[]⟩ [] := by unfold smT; rw [if_neg (by omega), if_pos h]; rfl
      have hd0 : (x % 8 == 0) = false := by rw [h]; rfl
      have hd : (x % 8 == 1) = true := by rw [h]; rfl
      rw [hs]
      clear hs h hsm h5
      go_enter Tryz.func27, Tryz.ntmps27
      go_upto_region 1 with fail
      rw [← hwb]
      clear hwb
      generalize hD : w.heap.size = D at *
      go_wp2_with (first
        | (go_at_call 52; (with_reducible refine (HT.out _).mono ?_); rintro e w4 ⟨rfl, rfl⟩)
        | (go_at_call 54; (with_reducible refine (HL.out _).mono ?_); rintro e w4 ⟨rfl, rfl⟩))
      have C := (HTb.out.put ⟨4, ldZ x, false, none, 0, 0, 0, ⟨#[]⟩, none, 0, 0⟩).at
      have hB5 := HB.out.put7 (g := D + 1) (by omega) ⟨4, ldZ x, false, none, 0, 0, 0, ⟨#[]⟩, none, 0, 0⟩
      clear f0 f1 f2 f3 f4 f5 f6 p0 p1 p2 p3 p4 p5 p6
      have y0 := C.c0; have y1 := C.c1; have y2 := C.c2; have y3 := C.c3; have y4 := C.c4; have y5 := C.c5; have y6 := C.c6
      clear C
      change bodyPost _ _ _ _ _ (put7 wb (D + 1) ⟨4, ldZ x, false, none, 0, 0, 0, ⟨#[]⟩, none, 0, 0⟩)
      generalize put7 wb (D + 1) ⟨4, ldZ x, false, none, 0, 0, 0, ⟨#[]⟩, none, 0, 0⟩ = W5 at *
      exact bodyPost_ret (v := .agg #[.int .i64 4, .int .i64 (ldZ x), .bool false, .slice none 0 0, .int .u64 0, .string ⟨#[]⟩, .slice none 0 0]) (by simp [results, Tryz.results27, go_sem, y0, y1, y2, y3, y4, y5, y6]) rfl (trm_leaf (by omega) (by omega) (by omega) (by decide) (by rw [hD]; exact hB5))
    · have hs : smT x = .mk 5 (ldZ x) false [] 0 ⟨#[]⟩ [] := by unfold smT; rw [if_neg (by omega), if_neg (by omega), if_pos h]; rfl
      have hd0 : (x % 8 == 0) = false := by rw [h]; rfl
      have hd1 : (x % 8 == 1) = false := by rw [h]; rfl
      have hd : (x % 8 == 2) = true := by rw [h]; rfl
      rw [hs]
      clear hs h hsm h5
      go_enter Tryz.func27, Tryz.ntmps27
      go_upto_region 1 with fail
      rw [← hwb]
      clear hwb
      generalize hD : w.heap.size = D at *
      go_wp2_with (first
        | (go_at_call 52; (with_reducible refine (HT.out _).mono ?_); rintro e w4 ⟨rfl, rfl⟩)
        | (go_at_call 54; (with_reducible refine (HL.out _).mono ?_); rintro e w4 ⟨rfl, rfl⟩))
      have C := (HTb.out.put ⟨5, ldZ x, false, none, 0, 0, 0, ⟨#[]⟩, none, 0, 0⟩).at
      have hB5 := HB.out.put7 (g := D + 1) (by omega) ⟨5, ldZ x, false, none, 0, 0, 0, ⟨#[]⟩, none, 0, 0⟩
      clear f0 f1 f2 f3 f4 f5 f6 p0 p1 p2 p3 p4 p5 p6
      have y0 := C.c0; have y1 := C.c1; have y2 := C.c2; have y3 := C.c3; have y4 := C.c4; have y5 := C.c5; have y6 := C.c6
      clear C
      change bodyPost _ _ _ _ _ (put7 wb (D + 1) ⟨5, ldZ x, false, none, 0, 0, 0, ⟨#[]⟩, none, 0, 0⟩)
      generalize put7 wb (D + 1) ⟨5, ldZ x, false, none, 0, 0, 0, ⟨#[]⟩, none, 0, 0⟩ = W5 at *
      exact bodyPost_ret (v := .agg #[.int .i64 5, .int .i64 (ldZ x), .bool false, .slice none 0 0, .int .u64 0, .string ⟨#[]⟩, .slice none 0 0]) (by simp [results, Tryz.results27, go_sem, y0, y1, y2, y3, y4, y5, y6]) rfl (trm_leaf (by omega) (by omega) (by omega) (by decide) (by rw [hD]; exact hB5))
    · have hs : smT x = .mk 7 0 false [] 0 ⟨#[]⟩ [] := by unfold smT; rw [if_neg (by omega), if_neg (by omega), if_neg (by omega)]; rfl
      have hd0 : (x % 8 == 0) = false := by rw [h]; rfl
      have hd1 : (x % 8 == 1) = false := by rw [h]; rfl
      have hd2 : (x % 8 == 2) = false := by rw [h]; rfl
      have hd : (x % 8 == 3) = true := by rw [h]; rfl
      rw [hs]
      clear hs h hsm h5
      go_enter Tryz.func27, Tryz.ntmps27
      go_upto_region 1 with fail
      rw [← hwb]
      clear hwb
      generalize hD : w.heap.size = D at *
      go_wp2_with (go_at_call 52; (with_reducible refine (HT.out _).mono ?_); rintro e w4 ⟨rfl, rfl⟩)
      have C := (HTb.out.put ⟨7, 0, false, none, 0, 0, 0, ⟨#[]⟩, none, 0, 0⟩).at
      have hB5 := HB.out.put7 (g := D + 1) (by omega) ⟨7, 0, false, none, 0, 0, 0, ⟨#[]⟩, none, 0, 0⟩
      clear f0 f1 f2 f3 f4 f5 f6 p0 p1 p2 p3 p4 p5 p6
      have y0 := C.c0; have y1 := C.c1; have y2 := C.c2; have y3 := C.c3; have y4 := C.c4; have y5 := C.c5; have y6 := C.c6
      clear C
      change bodyPost _ _ _ _ _ (put7 wb (D + 1) ⟨7, 0, false, none, 0, 0, 0, ⟨#[]⟩, none, 0, 0⟩)
      generalize put7 wb (D + 1) ⟨7, 0, false, none, 0, 0, 0, ⟨#[]⟩, none, 0, 0⟩ = W5 at *
      exact bodyPost_ret (v := .agg #[.int .i64 7, .int .i64 0, .bool false, .slice none 0 0, .int .u64 0, .string ⟨#[]⟩, .slice none 0 0]) (by simp [results, Tryz.results27, go_sem, y0, y1, y2, y3, y4, y5, y6]) rfl (trm_leaf (by omega) (by omega) (by omega) (by decide) (by rw [hD]; exact hB5))
  · have h45 : x % 8 = 4 ∨ x % 8 = 5 := by omega
    have dd0 : (x % 8 == 0) = false := beq_eq_false_iff_ne.2 (by omega)
    have dd1 : (x % 8 == 1) = false := beq_eq_false_iff_ne.2 (by omega)
    have dd2 : (x % 8 == 2) = false := beq_eq_false_iff_ne.2 (by omega)
    have dd3 : (x % 8 == 3) = false := beq_eq_false_iff_ne.2 (by omega)
    cases ho : objO gs x with
    | none => exact absurd hr (rd_none h45 ho)
    | some p =>
      obtain ⟨k, ws⟩ := p
      obtain ⟨hou, hfm⟩ := objO_outO ho
      have hkr := formO_k hfm
      have hwl := outO_len hM.gs1 hou
      have HO := Lib.hid (objectAt_any (hM.below hbb).mm hM.gs1 x hx)
      rw [ho] at HO
      have H0 := Lib.hid (And.intro (hM.below hbb) (And.intro rd bx))
      have q0 := rd.c0
      have q1 := rd.c1
      have q2 := rd.c2
      simp only at hwb
      by_cases hk : k = -1 ∨ k = 0
      · obtain ⟨ts, et, hts⟩ := (rd_node hp h45 ho hk).1 hr
        subst et
        have HC := Lib.hid (fun (w : World) (A : Option Addr) (n c : Nat) (hz : Zs .u64 w A n c ws) (hn : n ≤ 1000) (hm : Mem gs S mv SA sm sc w) => terms_c (kv := kv) (ts := ts) (fun u hu => ih u hu) hz hn hts hm)
        have hd : ((k == -1) = true ∧ Hid (ndT k ts = .mk 8 0 false [] 0 ⟨#[]⟩ ts)) ∨ ((k == -1) = false ∧ (k == 0) = true ∧ Hid (ndT k ts = .mk 6 0 false [] 0 ⟨#[]⟩ ts)) := by
          rcases hk with rfl | rfl
          · exact .inl ⟨rfl, Lib.hid rfl⟩
          · exact .inr ⟨rfl, rfl, Lib.hid rfl⟩
        clear hr hM rd bx ih hbb hp hld h5 hx0 HL h45 hou hfm hts ho hsm
        go_enter Tryz.func27, Tryz.ntmps27
        go_upto_region 1 with fail
        rw [← hwb]
        clear hwb
        generalize hD : w.heap.size = D at *
        go_upto_region 11 with (first
          | (go_at_call 52; (with_reducible refine (HT.out _).mono ?_); rintro e w4 ⟨rfl, rfl⟩)
          | (go_at_call 55; (with_reducible refine HO.out.mono ?_); rintro e w1 ⟨⟨hk, -⟩ | ⟨k', ws', A, n1, c, hk, rfl, hz⟩, hb1⟩; (cases hk); (cases hk)))
        obtain ⟨w2, hw2⟩ : ∃ w2, w2 = w1.alloc (.cells #[.int .i64 k, .slice A n1 c] 93) := ⟨_, rfl⟩
        rw [← hw2]
        have hb2 : Below w1.heap.size w1 w2 := by rw [hw2]; exact (Below.refl _ w1).alloc (Nat.le_refl _) _
        have nb : Ob w2 w1.heap.size k A n1 c := by rw [hw2]; exact Ob.new _ _ _ _ _
        have hb12 := hb1.trans (hb2.mono hb1.size)
        have hz2 := hz.below hb2
        have hn1 : n1 ≤ 1000 := by rw [← hz.len]; exact hwl
        have rd2 := H0.out.2.1.below hb12 H0.out.2.1.lt
        have bx2 := H0.out.2.2.below hb12
        have hM2 := H0.out.1.below hb12
        have HB2 := Lib.hid (HB.out.trans (hb12.mono (show D ≤ wb.heap.size by omega)))
        have HCa := Lib.hid (HC.out w2 A n1 c hz2 hn1 hM2)
        have p0 := nb.c0
        have p1 := nb.c1
        have r0 := rd2.c0
        have r1 := rd2.c1
        have r2 := rd2.c2
        have HTb := Lib.hid bx2
        have hDw : D + 1 < w2.heap.size := bx2.lt
        clear hw2 hb1 hb2 hb12 hz hz2 hM2 rd2 nb bx2 H0 HO q0 q1 q2 HC
        generalize w1.heap.size = E at *
        rcases hd with ⟨hd, hN⟩ | ⟨hd, hd2, hN⟩
        · go_wp2_with (go_at_call 56; (with_reducible refine HCa.out.mono ?_); rintro e w3 ⟨B, m, d, rfl, hTs, hSf, hb3⟩; have bx3 := HTb.out.below hb3; have f0 := bx3.frozen 0; have f1 := bx3.frozen 1; have f2 := bx3.frozen 2; have f3 := bx3.frozen 3; have f4 := bx3.frozen 4; have f5 := bx3.frozen 5; have f6 := bx3.frozen 6; have y0 := bx3.at.c0; have y1 := bx3.at.c1; have y2 := bx3.at.c2; have y3 := bx3.at.c3; have y4 := bx3.at.c4; have y5 := bx3.at.c5; have y6 := bx3.at.c6; replace bx3 := Lib.hid bx3; replace hTs := Lib.hid hTs; replace hSf := Lib.hid hSf; replace hb3 := Lib.hid hb3)
          have C := (bx3.out.put ⟨8, 0, false, none, 0, 0, 0, ⟨#[]⟩, B, m, d⟩).at
          have hDs : D ≤ w2.heap.size := by omega
          have hB5 := (HB2.out.trans (hb3.out.mono hDs)).put7 (g := D + 1) (by omega) ⟨8, 0, false, none, 0, 0, 0, ⟨#[]⟩, B, m, d⟩
          have hkp := keeps_p7 (S := fun b => w2.heap.size ≤ b) (w := w3) (g := D + 1) (by omega) ⟨8, 0, false, none, 0, 0, 0, ⟨#[]⟩, B, m, d⟩
          have hT5 := hTs.out.keep hkp
          have hS5 := hSf.out.keep hkp
          clear f0 f1 f2 f3 f4 f5 f6 y0 y1 y2 y3 y4 y5 y6 hkp hTs hSf
          have y0 := C.c0; have y1 := C.c1; have y2 := C.c2; have y3 := C.c3; have y4 := C.c4; have y5 := C.c5; have y6 := C.c6
          clear C
          change bodyPost _ _ _ _ _ (put7 w3 (D + 1) ⟨8, 0, false, none, 0, 0, 0, ⟨#[]⟩, B, m, d⟩)
          generalize put7 w3 (D + 1) ⟨8, 0, false, none, 0, 0, 0, ⟨#[]⟩, B, m, d⟩ = W5 at *
          exact bodyPost_ret (v := .agg #[.int .i64 8, .int .i64 0, .bool false, .slice none 0 0, .int .u64 0, .string ⟨#[]⟩, .slice B m d]) (by simp [results, Tryz.results27, go_sem, y0, y1, y2, y3, y4, y5, y6]) rfl (by rw [hN.out]; exact trm_node (by omega) hT5 hS5 (by rw [hD]; exact hDs) (by rw [hD]; exact hB5))
        · go_wp2_with (go_at_call 56; (with_reducible refine HCa.out.mono ?_); rintro e w3 ⟨B, m, d, rfl, hTs, hSf, hb3⟩; have bx3 := HTb.out.below hb3; have f0 := bx3.frozen 0; have f1 := bx3.frozen 1; have f2 := bx3.frozen 2; have f3 := bx3.frozen 3; have f4 := bx3.frozen 4; have f5 := bx3.frozen 5; have f6 := bx3.frozen 6; have y0 := bx3.at.c0; have y1 := bx3.at.c1; have y2 := bx3.at.c2; have y3 := bx3.at.c3; have y4 := bx3.at.c4; have y5 := bx3.at.c5; have y6 := bx3.at.c6; replace bx3 := Lib.hid bx3; replace hTs := Lib.hid hTs; replace hSf := Lib.hid hSf; replace hb3 := Lib.hid hb3)
          have C := (bx3.out.put ⟨6, 0, false, none, 0, 0, 0, ⟨#[]⟩, B, m, d⟩).at
          have hDs : D ≤ w2.heap.size := by omega
          have hB5 := (HB2.out.trans (hb3.out.mono hDs)).put7 (g := D + 1) (by omega) ⟨6, 0, false, none, 0, 0, 0, ⟨#[]⟩, B, m, d⟩
          have hkp := keeps_p7 (S := fun b => w2.heap.size ≤ b) (w := w3) (g := D + 1) (by omega) ⟨6, 0, false, none, 0, 0, 0, ⟨#[]⟩, B, m, d⟩
          have hT5 := hTs.out.keep hkp
          have hS5 := hSf.out.keep hkp
          clear f0 f1 f2 f3 f4 f5 f6 y0 y1 y2 y3 y4 y5 y6 hkp hTs hSf
          have y0 := C.c0; have y1 := C.c1; have y2 := C.c2; have y3 := C.c3; have y4 := C.c4; have y5 := C.c5; have y6 := C.c6
          clear C
          change bodyPost _ _ _ _ _ (put7 w3 (D + 1) ⟨6, 0, false, none, 0, 0, 0, ⟨#[]⟩, B, m, d⟩)
          generalize put7 w3 (D + 1) ⟨6, 0, false, none, 0, 0, 0, ⟨#[]⟩, B, m, d⟩ = W5 at *
          exact bodyPost_ret (v := .agg #[.int .i64 6, .int .i64 0, .bool false, .slice none 0 0, .int .u64 0, .string ⟨#[]⟩, .slice B m d]) (by simp [results, Tryz.results27, go_sem, y0, y1, y2, y3, y4, y5, y6]) rfl (by rw [hN.out]; exact trm_node (by omega) hT5 hS5 (by rw [hD]; exact hDs) (by rw [hD]; exact hB5))
      · have hk5 : 1 ≤ k ∧ k ≤ 5 := by omega
        have hlf := (rd_leaf hp h45 ho hk).1 hr
        have d1 : (k == -1) = false := beq_eq_false_iff_ne.2 (by omega)
        have d2 : (k == 0) = false := beq_eq_false_iff_ne.2 (by omega)
        clear hr hM rd bx ih hbb hp hld h5 hx0 HL h45 hou ho hsm
        go_enter Tryz.func27, Tryz.ntmps27
        go_upto_region 1 with fail
        rw [← hwb]
        clear hwb
        generalize hD : w.heap.size = D at *
        go_upto_region 11 with (first
          | (go_at_call 52; (with_reducible refine (HT.out _).mono ?_); rintro e w4 ⟨rfl, rfl⟩)
          | (go_at_call 55; (with_reducible refine HO.out.mono ?_); rintro e w1 ⟨⟨hk, -⟩ | ⟨k', ws', A, n1, c, hk, rfl, hz⟩, hb1⟩; (cases hk); (cases hk)))
        obtain ⟨w2, hw2⟩ : ∃ w2, w2 = w1.alloc (.cells #[.int .i64 k, .slice A n1 c] 93) := ⟨_, rfl⟩
        rw [← hw2]
        have hb2 : Below w1.heap.size w1 w2 := by rw [hw2]; exact (Below.refl _ w1).alloc (Nat.le_refl _) _
        have nb : Ob w2 w1.heap.size k A n1 c := by rw [hw2]; exact Ob.new _ _ _ _ _
        have hb12 := hb1.trans (hb2.mono hb1.size)
        have hz2 := hz.below hb2
        have hn1 : n1 ≤ 1000 := by rw [← hz.len]; exact hwl
        have rd2 := H0.out.2.1.below hb12 H0.out.2.1.lt
        have bx2 := H0.out.2.2.below hb12
        have hM2 := H0.out.1.below hb12
        have HB2 := Lib.hid (HB.out.trans (hb12.mono (show D ≤ wb.heap.size by omega)))
        have HLe := Lib.hid (leaf_any hM2.mm hM2.gs1 hM2.sl hM2.sm1 kv hz2 hn1 k hk5 hfm)
        have hnn : ∀ j, 0 ≤ ws.getD j 0 := fun j => by
          by_cases hj : j < n1
          · exact (wf_u (hz.wfAt hj)).1
          · rw [List.getD_eq_getElem?_getD, List.getElem?_eq_none (by rw [hz.len]; omega)]
            exact Int.le_refl 0
        have HOk := Lib.hid (lfO_ok hfm hk5 (hnn 1) (hnn 2) hlf).1
        rw [hlf] at HLe
        have p0 := nb.c0
        have p1 := nb.c1
        have r0 := rd2.c0
        have r1 := rd2.c1
        have r2 := rd2.c2
        have HTb := Lib.hid bx2
        have hDw : D + 1 < w2.heap.size := bx2.lt
        clear hw2 hb1 hb2 hb12 hz hz2 hM2 rd2 nb bx2 H0 HO q0 q1 q2 hnn hlf hk hfm hkr hk5
        generalize w1.heap.size = E at *
        go_upto_region 17 with (go_at_call 57; (with_reducible refine HLe.out.mono ?_); rintro e w3 ⟨⟨R, rfl, hR⟩, hb3⟩; replace hR := Lib.hid hR; replace hb3 := Lib.hid hb3)
        obtain ⟨hT, hO, hRm⟩ := hR.out t rfl
        replace hRm := Lib.hid hRm
        obtain ⟨w4, hw4⟩ : ∃ w4, w4 = w3.alloc (.cells #[.int .i64 R.k, .int .i64 R.n, .bool R.g, .slice R.A R.ln R.lc, .int .u64 R.u, .string R.s, .slice R.B R.m R.d] 40) := ⟨_, rfl⟩
        have hb4 : Below w3.heap.size w3 w4 := by rw [hw4]; exact (Below.refl _ w3).alloc (Nat.le_refl _) _
        have nbx : Box7 w4 w3.heap.size R := by rw [hw4]; exact Box7.new w3 R
        have bx4 := HTb.out.below (hb3.out.trans (hb4.mono hb3.out.size))
        have hbs := Ok.bytes hT HOk.out
        have HSc := Lib.hid (sclone_any R.s (by omega) w4)
        have hDG : D + 1 < w3.heap.size := Nat.lt_of_lt_of_le hDw hb3.out.size
        have hln := Ok.limbs hT HOk.out
        have hT4 := Lib.hid (hT.bel hb4)
        have HL3 : LmT (fun b => D ≤ b ∧ b ≠ w3.heap.size ∧ b ≠ D + 1) w3 R.A R.ln R.lc := (LmT.own (S := fun b => w2.heap.size ≤ b) hO (fun _ h => h)).mono (fun b h1 h2 => ⟨by omega, by omega, by omega⟩)
        have hO4 : Hid (TVS (fun b => D ≤ b ∧ b ≠ w3.heap.size ∧ b ≠ D + 1) w4 R t ∧ Sfe (fun b => D ≤ b ∧ b ≠ w3.heap.size ∧ b ≠ D + 1) w4 R) := Lib.hid ⟨(tvS_lm hT HL3 hRm.out).keep (hb4.keeps _), (sfe_lm HL3 hRm.out (by omega)).keep (hb4.keeps _)⟩
        have HB4 := Lib.hid (HB2.out.trans ((hb3.out.trans (hb4.mono hb3.out.size)).mono (show D ≤ w2.heap.size by omega)))
        rw [← hw4]
        have q5 := nbx.at.c5
        have f5 := nbx.frozen 5
        replace nbx := Lib.hid nbx
        replace bx4 := Lib.hid bx4
        have hG4 : w3.heap.size < w4.heap.size := by rw [hw4]; simp
        have hw23 := hb3.out.size
        clear hw4 hb4 hb3 hT hO hR HLe HTb HL3 hT4 hln p0 p1 r0 r1 r2 hbs
        generalize hG : w3.heap.size = G at *
        go_upto_region 18 with (go_at_call 58; (with_reducible refine HSc.out.mono ?_); rintro e w5 ⟨rfl, hb5⟩; have q5 := (hb5.cell (p := ⟨G, 5, none⟩) hG4).trans q5; have f5 := (nbx.out.below hb5).frozen 5; replace hb5 := Lib.hid hb5)
        have bx6 := nbx.out.below hb5.out
        have bx7 := Lib.hid (bx6.same5)
        have tb7 := Lib.hid ((bx4.out.below hb5.out).off (g := G) (by omega) (.string R.s))
        have hkp : Keeps (fun b => D ≤ b ∧ b ≠ G ∧ b ≠ D + 1) w4 (w5.setCell ⟨G, 5, none⟩ (.string R.s)) := (hb5.out.keeps _).setCell (p := ⟨G, 5, none⟩) (by simp) _
        have hX7 : Hid (TVS (fun b => D ≤ b ∧ b ≠ G ∧ b ≠ D + 1) (w5.setCell ⟨G, 5, none⟩ (.string R.s)) R t ∧ Sfe (fun b => D ≤ b ∧ b ≠ G ∧ b ≠ D + 1) (w5.setCell ⟨G, 5, none⟩ (.string R.s)) R) := Lib.hid ⟨hO4.out.1.keep hkp, hO4.out.2.keep hkp⟩
        have HB7 : Hid (Below D w (w5.setCell ⟨G, 5, none⟩ (.string R.s))) := Lib.hid ((HB4.out.trans (hb5.out.mono (by omega))).setCell (p := ⟨G, 5, none⟩) (by simp only; omega) _)
        clear bx6 hkp hO4 HB4 bx4 nbx hb5 q5 f5 HSc HB2 hG4
        generalize w5.setCell ⟨G, 5, none⟩ (.string R.s) = w7 at *
        have y0 := bx7.out.at.c0; have y1 := bx7.out.at.c1; have y2 := bx7.out.at.c2; have y3 := bx7.out.at.c3; have y4 := bx7.out.at.c4; have y5 := bx7.out.at.c5; have y6 := bx7.out.at.c6
        have f0 := tb7.out.frozen 0; have f1 := tb7.out.frozen 1; have f2 := tb7.out.frozen 2; have f3 := tb7.out.frozen 3; have f4 := tb7.out.frozen 4; have f5 := tb7.out.frozen 5; have f6 := tb7.out.frozen 6
        have p0 := tb7.out.at.c0; have p1 := tb7.out.at.c1; have p2 := tb7.out.at.c2; have p3 := tb7.out.at.c3; have p4 := tb7.out.at.c4; have p5 := tb7.out.at.c5; have p6 := tb7.out.at.c6
        go_wp2
        have C := (tb7.out.put R).at
        have hB8 := HB7.out.put7 (g := D + 1) (by omega) R
        have hkp := keeps_p7 (S := fun b => D ≤ b ∧ b ≠ G ∧ b ≠ D + 1) (w := w7) (g := D + 1) (by simp) R
        have hT8 := (hX7.out.1.keep hkp).mono (S' := fun b => D ≤ b) (fun b h => h.1)
        have hS8 := (hX7.out.2.keep hkp).mono (S' := fun b => D ≤ b) (fun b _ h => h.1)
        clear f0 f1 f2 f3 f4 f5 f6 y0 y1 y2 y3 y4 y5 y6 p0 p1 p2 p3 p4 p5 p6 hkp hX7
        have y0 := C.c0; have y1 := C.c1; have y2 := C.c2; have y3 := C.c3; have y4 := C.c4; have y5 := C.c5; have y6 := C.c6
        clear C
        change bodyPost _ _ _ _ _ (put7 w7 (D + 1) R)
        generalize put7 w7 (D + 1) R = W5 at *
        exact bodyPost_ret (v := .agg #[.int .i64 R.k, .int .i64 R.n, .bool R.g, .slice R.A R.ln R.lc, .int .u64 R.u, .string R.s, .slice R.B R.m R.d]) (by simp [results, Tryz.results27, go_sem, y0, y1, y2, y3, y4, y5, y6]) rfl ⟨R, rfl, by rw [hD]; exact hT8, by rw [hD]; exact hS8, by rw [hD]; exact hB8⟩
end
end Go.Proofs.YtejmmjedognaaaaGreat
