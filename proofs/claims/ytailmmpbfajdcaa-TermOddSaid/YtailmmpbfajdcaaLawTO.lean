/-
  THE LAW TermOdd.
-/
import Derived.Test.YtailmmpbfajdcaaJ8
import Derived.Test.YtailmmpbfajdcaaLow
namespace Go.Proofs.Ytailmmpbfajdcaa
open Go.RowKit

set_option maxRecDepth 100000 in
/-! ### A term with a field that its kind does not have -/
theorem Tm.form_alike {t : Tm} (h : t.formB = true) : Tm.alikeB t t.ment = true := by
  rw [Tm.formB_eq, Bool.and_eq_true] at h
  exact h.1
set_option maxRecDepth 100000 in
theorem Tm.may_no {t : Tm} (h : Tm.alikeB t t.ment = false) : t.mayB = false := by
  rw [Tm.mayB, Tm.formB_eq, h]; simp
set_option maxRecDepth 100000 in
theorem Tm.may_no' {t : Tm} (h : t.formB = false) : t.mayB = false := by rw [Tm.mayB, h]; simp
set_option maxRecDepth 100000 in
theorem odd_num {k : Int} {g : Bool} {l : List Nat} {u : Int} {s : ByteArray} {ks : List Tm} (h1 : k ≠ 1) (h4 : k ≠ 4) (h5 : k ≠ 5) : (Tm.mk k 1 g l u s ks).mayB = false := by
  refine Tm.may_no ?_
  have : (Tm.mk k 1 g l u s ks).ment.num = 0 := by
    simp only [Tm.ment]
    repeat' split
    all_goals first | rfl | (exfalso; omega)
  unfold Tm.alikeB
  rw [this]
  simp [Tm.num]
set_option maxRecDepth 100000 in
theorem odd_mag {k n : Int} {g : Bool} {u : Int} {s : ByteArray} {ks : List Tm} (h2 : k ≠ 2) : (Tm.mk k n g [1] u s ks).mayB = false := by
  refine Tm.may_no ?_
  have : (Tm.mk k n g [1] u s ks).ment.mag = [] := by
    simp only [Tm.ment]
    repeat' split
    all_goals first | rfl | (exfalso; omega)
  unfold Tm.alikeB
  rw [this]
  simp [Tm.mag]
set_option maxRecDepth 100000 in
theorem odd_bits {k n : Int} {g : Bool} {l : List Nat} {s : ByteArray} {ks : List Tm} (h3 : k ≠ 3) : (Tm.mk k n g l 1 s ks).mayB = false := by
  refine Tm.may_no ?_
  have : (Tm.mk k n g l 1 s ks).ment.bits = 0 := by
    simp only [Tm.ment]
    repeat' split
    all_goals first | rfl | (exfalso; omega)
  unfold Tm.alikeB
  rw [this]
  simp [Tm.bits]
set_option maxRecDepth 100000 in
theorem odd_bytes {k n : Int} {g : Bool} {l : List Nat} {u : Int} {ks : List Tm} (h9 : k ≠ 9) : (Tm.mk k n g l u ⟨#[120]⟩ ks).mayB = false := by
  refine Tm.may_no ?_
  have : (Tm.mk k n g l u ⟨#[120]⟩ ks).ment.bytes = ⟨#[]⟩ := by
    simp only [Tm.ment]
    repeat' split
    all_goals first | rfl | (exfalso; omega)
  unfold Tm.alikeB
  rw [this]
  simp [Tm.bytes]
set_option maxRecDepth 100000 in
theorem odd_arg {k n : Int} {g : Bool} {l : List Nat} {u : Int} {s : ByteArray} {ks : List Tm} : (Tm.mk k n g l u s (ks ++ [.mk 0 0 false [] 0 ⟨#[]⟩ []])).mayB = false := by
  refine Tm.may_no' ?_
  rw [Tm.formB_eq]
  have : Tm.formsB (ks ++ [.mk 0 0 false [] 0 ⟨#[]⟩ []]) = false := by
    cases h : Tm.formsB (ks ++ [.mk 0 0 false [] 0 ⟨#[]⟩ []]) with
    | false => rfl
    | true =>
      have := Tm.formsB_iff.1 h (.mk 0 0 false [] 0 ⟨#[]⟩ []) (by simp)
      simp [Tm.formB, Tm.formsB, Tm.boundB, Tm.kind] at this
  rw [show (Tm.mk k n g l u s (ks ++ [.mk 0 0 false [] 0 ⟨#[]⟩ []])).args = ks ++ [.mk 0 0 false [] 0 ⟨#[]⟩ []] from rfl, this]
  simp

set_option maxRecDepth 100000 in
theorem greatB_small' {ts : List Tm} {most : Int} (h : greatB ts most = false) : (Tm.size.sizes ts : Int) ≤ most ∧ ∀ t ∈ ts, t.Ok := by
  have h1 := of_decide_eq_false h
  exact Tm.fine (ts := ts) (most := most) (by omega)
/-- What stands while TermOdd goes on: the term, and the copy that is made odd. -/
structure ToI (w : World) (r : TR) (t : Tm) (q : Nat) (R : TR) (T : Tm) (W : World) : Prop where
  bx : Box7 W w.heap.size r
  bq : Box7 W q R
  tT : TVS (fun b => b ≠ q) W R T
  be : Below w.heap.size w W
  pq : w.heap.size < q
set_option maxRecDepth 100000 in
theorem ToI.below {w : World} {r : TR} {t : Tm} {q : Nat} {R : TR} {T : Tm} {W W' : World} (h : ToI w r t q R T W) (hb : Below W.heap.size W W') : ToI w r t q R T W' :=
  ⟨h.bx.below hb, h.bq.below hb, h.tT.keep (hb.keeps _), h.be.trans (hb.mono h.be.size), h.pq⟩
set_option maxRecDepth 100000 in
theorem Tm.eta (t : Tm) : t = .mk t.kind t.num t.neg t.mag t.bits t.bytes t.args := by cases t; rfl

set_option maxRecDepth 100000 in
theorem TVS.mk' {S : Nat → Prop} {w : World} {k n : Int} {g : Bool} {A : Option Addr} {ln lc : Nat} {u : Int} {s : ByteArray} {B : Option Addr} {m d : Nat} {l : List Nat} {ks : List Tm}
    (k0 : -9223372036854775808 ≤ k) (k1 : k ≤ 9223372036854775807) (n0 : -9223372036854775808 ≤ n) (n1 : n ≤ 9223372036854775807) (u0 : 0 ≤ u) (u1 : u ≤ 18446744073709551615)
    (lim : Lim w A ln lc l) (cap : lc ≤ maxLen) (hS : 0 < ln → ∀ a, A = some a → S a.block) (str : s.size ≤ maxLen) (h : TVSs S w B m d ks) : TVS S w ⟨k, n, g, A, ln, lc, u, s, B, m, d⟩ (.mk k n g l u s ks) := by
  obtain ⟨V, h1, h2⟩ := h.el
  exact .mk ⟨k, n, g, A, ln, lc, u, s, B, m, d⟩ l ks V ⟨k0, k1, n0, n1, u0, u1, lim, cap, str, h.md, h.dd⟩ h.len h1 ⟨hS, fun hm a e => h.on hm a e⟩ h2
set_option maxRecDepth 100000 in
theorem TVS.onL {S : Nat → Prop} {w : World} {r : TR} {t : Tm} (h : TVS S w r t) : 0 < r.ln → ∀ a, r.A = some a → S a.block := by
  cases h with
  | mk _ l ks V hf hm hs on hk => exact on.lim
set_option maxRecDepth 100000 in
theorem TVS.args' {S : Nat → Prop} {w : World} {r : TR} {t : Tm} (h : TVS S w r t) : TVSs S w r.B r.m r.d t.args := by
  cases h with
  | mk _ l ks V hf hm hs on hk => exact ⟨hm, hf.md, hf.dd, on.arg, V, hs, hk⟩
section
variable {w : World} {q : Nat} {R : TR} (h : Box7 w q R)
include h
set_option maxRecDepth 100000 in
theorem Box7.set1 (z : Int) : Box7 (w.setCell ⟨q, 1, none⟩ (.int .i64 z)) q ⟨R.k, z, R.g, R.A, R.ln, R.lc, R.u, R.s, R.B, R.m, R.d⟩ := by
  unfold Box7 at h ⊢; simp [World.setCell, Array.getElem?_modify, h]
set_option maxRecDepth 100000 in
theorem Box7.set4 (z : Int) : Box7 (w.setCell ⟨q, 4, none⟩ (.int .u64 z)) q ⟨R.k, R.n, R.g, R.A, R.ln, R.lc, z, R.s, R.B, R.m, R.d⟩ := by
  unfold Box7 at h ⊢; simp [World.setCell, Array.getElem?_modify, h]
set_option maxRecDepth 100000 in
theorem Box7.set5 (z : ByteArray) : Box7 (w.setCell ⟨q, 5, none⟩ (.string z)) q ⟨R.k, R.n, R.g, R.A, R.ln, R.lc, R.u, z, R.B, R.m, R.d⟩ := by
  unfold Box7 at h ⊢; simp [World.setCell, Array.getElem?_modify, h]
set_option maxRecDepth 100000 in
theorem Box7.set23 (g : Bool) (A : Option Addr) (n c : Nat) : Box7 ((w.setCell ⟨q, 2, none⟩ (.bool g)).setCell ⟨q, 3, none⟩ (.slice A n c)) q ⟨R.k, R.n, g, A, n, c, R.u, R.s, R.B, R.m, R.d⟩ := by
  unfold Box7 at h ⊢; simp [World.setCell, Array.getElem?_modify, h]
end
set_option maxRecDepth 100000 in
/-- The cells of any terms, put behind none: a row of one's own. -/
theorem row_cells {w : World} {B : Option Addr} {m d : Nat} {V : Nat → TR} (h1 : Spread w B m V) (hm : m ≤ 100000) (ty : TypeId) :
    ∃ B' d' w', (Builtin.append_ #[28, 28] ty #[.slice none 0 0, .slice B m d]).run Try.prog w = .ok (.slice B' m d') w' ∧ w'.ownsRow w.heap.size 30 7 (.slice B' m d') m (rcells V m) ∧ Below w.heap.size w w' := by
  obtain ⟨i, hi, hz, hs, hb⟩ := info_term'
  cases B with
  | none =>
    have h0 : m = 0 := by
      rcases Nat.eq_zero_or_pos m with h0 | h0
      · exact h0
      · obtain ⟨b, o, e, _⟩ := h1 h0
        cases e
    subst h0
    exact ⟨none, 0, w, by simp [Builtin.append_, run_underlying und_terms, sizeOf, typeInfo, hi, Builtin.lenOf, Builtin.firstCells], World.ownsRow_nil _ _ _ _, Below.refl _ _⟩
  | some a =>
    have hcell : ∀ j u, (rcells V m)[j]? = some u → w.cell? (a.add j) = some u := by
      intro j u hu
      have hj : j < m * 7 := by rw [← rcells_len V m]; exact (List.getElem?_eq_some_iff.1 hu).1
      obtain ⟨b, o, e, _, hc⟩ := h1 (by omega)
      cases e
      have e7 : j = j / 7 * 7 + j % 7 := by omega
      rw [e7, rcells_get V (by omega) (by omega)] at hu
      rw [add_none, show o + j = (o + j / 7 * 7) + j % 7 by omega]
      have h7 := hc (j / 7) (by omega)
      have hk : j % 7 = 0 ∨ j % 7 = 1 ∨ j % 7 = 2 ∨ j % 7 = 3 ∨ j % 7 = 4 ∨ j % 7 = 5 ∨ j % 7 = 6 := by omega
      rw [← hu]
      rcases hk with e | e | e | e | e | e | e <;> rw [e]
      · exact h7.c0
      · exact h7.c1
      · exact h7.c2
      · exact h7.c3
      · exact h7.c4
      · exact h7.c5
      · exact h7.c6
    have h1c : ∀ u ∈ rcells V m, u.oneCell' = true := by
      intro u hu
      have : ∀ m, u ∈ rcells V m → u.oneCell' = true := by
        intro m
        induction m with
        | zero => intro h; cases h
        | succ m ih =>
          intro h
          rw [rcells] at h
          rcases List.mem_append.1 h with h | h
          · exact ih h
          · exact cells_one u h
      exact this m hu
    obtain ⟨v', w', hrun, ho, hg, hn, hloc⟩ := run_append_own_at (P := Try.prog) w w.heap.size 28 ty 30 i _ 7 96 und_terms hi hz hs hb rfl (by decide) (.slice none 0 0) 0 [] (World.ownsRow_nil _ _ _ _) a m d (rcells V m) (rcells_len V m) hcell h1c (by unfold maxLen; omega) (by omega) (Nat.le_refl _)
    rw [Nat.zero_add, List.nil_append] at ho
    have hform : ∃ B' d', v' = .slice B' m d' := by
      rcases ho.2 with ⟨rfl, h0⟩ | ⟨g, cap, cur, rfl, _⟩
      · exact ⟨none, 0, by rw [h0]⟩
      · exact ⟨_, _, rfl⟩
    obtain ⟨B', d', rfl⟩ := hform
    exact ⟨B', d', w', hrun, ho, (Below.refl w.heap.size w).grown hg (Nat.le_refl _) (fun k hk => by cases hk)⟩
set_option maxRecDepth 100000 in
/-- One more record behind a row. -/
theorem row_one {w : World} {base : Nat} {B : Option Addr} {m d : Nat} {V : Nat → TR} (h : w.ownsRow base 30 7 (.slice B m d) m (rcells V m)) (r : TR) (hm : m ≤ 100000) (hbase : base ≤ w.heap.size) (ty : TypeId) :
    ∃ B' d' w', (Builtin.append_ #[28, 28] ty #[.slice B m d, .slice (some ⟨w.heap.size, 0, none⟩) 1 1]).run Try.prog (w.alloc (.cells #[.int .i64 r.k, .int .i64 r.n, .bool r.g, .slice r.A r.ln r.lc, .int .u64 r.u, .string r.s, .slice r.B r.m r.d] 30)) = .ok (.slice B' (m + 1) d') w' ∧
      w'.ownsRow base 30 7 (.slice B' (m + 1) d') (m + 1) (rcells (fun i => if i < m then V i else r) (m + 1)) ∧ Below base w w' := by
  obtain ⟨i, hi, hz, hs, hb⟩ := info_term'
  have hal := (Below.refl w.heap.size w).alloc (Nat.le_refl _) (.cells #[.int .i64 r.k, .int .i64 r.n, .bool r.g, .slice r.A r.ln r.lc, .int .u64 r.u, .string r.s, .slice r.B r.m r.d] 30)
  have h' : (w.alloc (.cells #[.int .i64 r.k, .int .i64 r.n, .bool r.g, .slice r.A r.ln r.lc, .int .u64 r.u, .string r.s, .slice r.B r.m r.d] 30)).ownsRow base 30 7 (.slice B m d) m (rcells V m) := by
    refine ⟨h.1, ?_⟩
    rcases h.2 with h0 | ⟨g, cap, cur, hv, hbg, hg, rest⟩
    · exact .inl h0
    · exact .inr ⟨g, cap, cur, hv, hbg, (hal.block g (Array.getElem?_eq_some_iff.1 hg).1).trans hg, rest⟩
  obtain ⟨v', w', hrun, ho, hg, hn, hloc⟩ := run_append_own_at (P := Try.prog) (w.alloc (.cells #[.int .i64 r.k, .int .i64 r.n, .bool r.g, .slice r.A r.ln r.lc, .int .u64 r.u, .string r.s, .slice r.B r.m r.d] 30)) base 28 ty 30 i _ 7 96 und_terms hi hz hs hb rfl (by decide) (.slice B m d) m (rcells V m) h' ⟨w.heap.size, 0, none⟩ 1 1 r.cells (by simp [TR.cells]) (fun k u hu => by
        rw [add_none, World.cell?_alloc_at _ _ _ _ rfl, Nat.zero_add]
        simpa [TR.cells] using hu) cells_one (by unfold maxLen; omega) (by omega) (by simp; omega)
  have hform : ∃ B' d', v' = .slice B' (m + 1) d' := by
    rcases ho.2 with ⟨_, h0⟩ | ⟨g, cap, cur, rfl, _⟩
    · omega
    · exact ⟨_, _, rfl⟩
  obtain ⟨B', d', rfl⟩ := hform
  have e : rcells (fun i => if i < m then V i else r) (m + 1) = rcells V m ++ r.cells := by
    rw [rcells, if_neg (by omega), rcells_congr (V' := V) (fun i hi => by simp [hi])]
  refine ⟨B', d', w', hrun, by rw [e]; exact ho, ((Below.refl base w).alloc hbase (.cells #[.int .i64 r.k, .int .i64 r.n, .bool r.g, .slice r.A r.ln r.lc, .int .u64 r.u, .string r.s, .slice r.B r.m r.d] 30)).trans ((Below.refl base _).grown hg (by simp; omega) (fun k hk => (World.ownsRow.lt h' k hk).1))⟩
set_option maxRecDepth 100000 in
/-- Terms, and one that is no term behind them, in a row that is new. -/
theorem app_two {S : Nat → Prop} {w : World} {B : Option Addr} {m d : Nat} {ts : List Tm} (h : TVSs S w B m d ts) (hm : m ≤ 100000) (ty : TypeId) :
    ∃ B1 d1 w1, (Builtin.append_ #[28, 28] ty #[.slice none 0 0, .slice B m d]).run Try.prog w = .ok (.slice B1 m d1) w1 ∧
      ∃ B2 d2 w2, (Builtin.append_ #[28, 28] ty #[.slice B1 m d1, .slice (some ⟨w1.heap.size, 0, none⟩) 1 1]).run Try.prog (w1.alloc (.cells #[.int .i64 zeroR.k, .int .i64 zeroR.n, .bool zeroR.g, .slice zeroR.A zeroR.ln zeroR.lc, .int .u64 zeroR.u, .string zeroR.s, .slice zeroR.B zeroR.m zeroR.d] 30)) = .ok (.slice B2 (m + 1) d2) w2 ∧
        TVSs (fun b => S b ∨ w.heap.size ≤ b) w2 B2 (m + 1) d2 (ts ++ [.mk 0 0 false [] 0 ⟨#[]⟩ []]) ∧ Below w.heap.size w w2 := by
  obtain ⟨V, h1, h2⟩ := h.el
  obtain ⟨B1, d1, w1, run1, ho1, hb1⟩ := row_cells (d := d) h1 hm ty
  obtain ⟨B2, d2, w2, run2, ho2, hb2⟩ := row_one ho1 zeroR hm hb1.size ty
  have hbb := hb1.trans hb2
  refine ⟨B1, d1, w1, run1, B2, d2, w2, run2, ?_, hbb⟩
  rcases ho2.2 with ⟨_, h0⟩ | ⟨g, cap, cur, hv, hbg, hg, hc1, hc2, _⟩
  · omega
  · cases hv
    refine ⟨by rw [List.length_append, h.len]; rfl, hc1, hc2, fun _ a e => by cases e; exact .inr hbg, fun i => if i < m then V i else zeroR, fun _ => ⟨g, 0, rfl, (Array.getElem?_eq_some_iff.1 hg).1, fun i hi => At7.of fun j hj => ?_⟩, fun i t e => ?_⟩
    · rw [add_none, World.ownsRow.cellAt ho2 _ (by omega), Nat.zero_add, rcells_get _ hi hj]
    · by_cases hlt : i < m
      · rw [List.getElem?_append_left (by rw [h.len]; exact hlt)] at e
        simp only [hlt, if_true]
        exact ((h2 i t e).keep (hbb.keeps _)).mono fun b hb => .inl hb
      · rw [List.getElem?_append_right (by rw [h.len]; omega), h.len] at e
        have hz : i - m = 0 := by
          rcases Nat.eq_zero_or_pos (i - m) with hz | hz
          · exact hz
          · rw [List.getElem?_eq_none (by simp; omega)] at e; cases e
        rw [hz] at e
        simp at e
        subst e
        simp only [hlt, if_false]
        exact TVS.leafy TV.zero (fun h => absurd h (by simp)) rfl

set_option maxRecDepth 100000 in
set_option maxHeartbeats 8000000 in
theorem termOdd_walk (w : World) (r : TR) (t : Tm) (htv : TV w r t) (which : Int) :
    Calls Try.prog 5 #[.agg #[.int .i64 r.k, .int .i64 r.n, .bool r.g, .slice r.A r.ln r.lc, .int .u64 r.u, .string r.s, .slice r.B r.m r.d], .int .i64 which] w fun e w' => e = .returned (.bool true) ∧ Below w.heap.size w w' := by
  have I := BxI.new htv
  obtain ⟨x, hx5, hlow⟩ := low_nat which 5 (by omega) (by omega)
  have HL := Lib.hid hlow
  clear hlow
  go_enter Try.func5, Try.ntmps5
  go_wp2_with fail
  generalize w.alloc (.cells #[.int .i64 r.k, .int .i64 r.n, .bool r.g, .slice r.A r.ln r.lc, .int .u64 r.u, .string r.s, .slice r.B r.m r.d] 30) = W at *
  refine (greatT_any W r t I.tv 400 (by omega) (by omega)).mono ?_
  rintro e w1 ⟨rfl, hb1⟩
  have I1 := I.below hb1
  clear I
  cases hg : greatB [t] 400 with
  | true =>
    clear hg
    go_wp2_with fail
    refine (awake4 w1).mono ?_
    rintro e wz ⟨rfl, hbz⟩
    go_wp2
    go_ret
    exact ⟨rfl, I1.be.trans (hbz.mono I1.be.size)⟩
  | false =>
    obtain ⟨hsz0, hok0⟩ := greatB_small' hg
    have hok := hok0 t (by simp)
    have hsz : t.size ≤ 100000 := by simp only [Tm.size.sizes] at hsz0; omega
    clear hg hok0 hsz0
    have y0 := I1.bx.at.c0; have y1 := I1.bx.at.c1; have y2 := I1.bx.at.c2; have y3 := I1.bx.at.c3; have y4 := I1.bx.at.c4; have y5 := I1.bx.at.c5; have y6 := I1.bx.at.c6
    go_wp2_with fail
    refine (mayTerm_any w1 r t I1.tv hok).mono ?_
    rintro e w2 ⟨rfl, hb2⟩
    have I2 := I1.below hb2
    clear I1 y0 y1 y2 y3 y4 y5 y6
    cases hmy : t.mayB with
    | false =>
      go_wp2_with fail
      refine (awake4 w2).mono ?_
      rintro e wz ⟨rfl, hbz⟩
      go_wp2
      go_ret
      exact ⟨rfl, I2.be.trans (hbz.mono I2.be.size)⟩
    | true =>
      have hcap : t.cap ≤ 300 := by
        unfold Tm.mayB at hmy
        simp only [Bool.and_eq_true, decide_eq_true_eq] at hmy
        exact hmy.1
      clear hmy
      have y0 := I2.bx.at.c0; have y1 := I2.bx.at.c1; have y2 := I2.bx.at.c2; have y3 := I2.bx.at.c3; have y4 := I2.bx.at.c4; have y5 := I2.bx.at.c5; have y6 := I2.bx.at.c6
      go_wp2_with fail
      refine (copyTerm_any t w2 r I2.tv hok hsz).mono ?_
      rintro e w3 ⟨R, rfl, hT, hb3⟩
      have I3 := I2.below hb3
      have hw2 : w.heap.size < w2.heap.size := I2.bx.lt
      have hw3 : w.heap.size < w3.heap.size := I3.bx.lt
      have K : ToI w r t w3.heap.size R t (w3.alloc (.cells #[.int .i64 R.k, .int .i64 R.n, .bool R.g, .slice R.A R.ln R.lc, .int .u64 R.u, .string R.s, .slice R.B R.m R.d] 30)) := by
        have hal := (Below.refl w3.heap.size w3).alloc (Nat.le_refl _) (.cells #[.int .i64 R.k, .int .i64 R.n, .bool R.g, .slice R.A R.ln R.lc, .int .u64 R.u, .string R.s, .slice R.B R.m R.d] 30)
        exact ⟨I3.bx.below hal, Box7.new w3 R, (hT.tv.tvS.keep (hal.keeps _)).mono (fun b h => by omega), I3.be.alloc (by omega) _, hw3⟩
      have hTb : TVSs (fun b => w2.heap.size ≤ b) (w3.alloc (.cells #[.int .i64 R.k, .int .i64 R.n, .bool R.g, .slice R.A R.ln R.lc, .int .u64 R.u, .string R.s, .slice R.B R.m R.d] 30)) R.B R.m R.d t.args := hT.args'.keep ((Keeps.refl _ _).alloc _)
      clear I2 I3 y0 y1 y2 y3 y4 y5 y6 hT hb3 hb2 hb1
      go_wp2_with fail
      obtain ⟨q, hq⟩ : ∃ q, q = w3.heap.size := ⟨_, rfl⟩
      generalize w3.alloc (.cells #[.int .i64 R.k, .int .i64 R.n, .bool R.g, .slice R.A R.ln R.lc, .int .u64 R.u, .string R.s, .slice R.B R.m R.d] 30) = W3 at *
      rw [← hq] at K ⊢
      clear hq
      refine (HL.out W3).mono ?_
      rintro e w4 ⟨rfl, rfl⟩
      have hxx : x = 0 ∨ x = 1 ∨ x = 2 ∨ x = 3 ∨ x = 4 := by omega
      have hkk : R.k = r.k := by rw [← K.tT.tv.kind, htv.kind]
      have F := K.tT.tv.flat
      have hOL := K.tT.onL
      have hAr := K.tT.args'
      have hln : t.mag.length ≤ 40 := by cases t; exact (Tm.ok_mk.1 hok).1
      have hbs : R.s.size ≤ 1000 := by rw [← K.tT.tv.bytes]; cases t; exact (Tm.ok_mk.1 hok).2.1
      have hrm : R.m ≤ 100000 := by rw [← K.tT.tv.len]; exact Nat.le_trans (Tm.size_args t) hsz
      have HK := Lib.hid hkk
      have hpq := K.pq
      have hqlt := K.bq.lt
      clear hkk
      rcases hxx with rfl | rfl | rfl | rfl | rfl
      · cases e1 : (r.k == 1) with
        | true =>
          have x0 := K.bx.at.c0
          go_wp2_with fail
          refine (awake4 W3).mono ?_
          rintro e wz ⟨rfl, hbz⟩
          go_wp2
          go_ret
          exact ⟨rfl, K.be.trans (hbz.mono K.be.size)⟩
        | false =>
        cases e4 : (r.k == 4) with
        | true =>
          have x0 := K.bx.at.c0
          go_wp2_with fail
          refine (awake4 W3).mono ?_
          rintro e wz ⟨rfl, hbz⟩
          go_wp2
          go_ret
          exact ⟨rfl, K.be.trans (hbz.mono K.be.size)⟩
        | false =>
        cases e5 : (r.k == 5) with
        | true =>
          have x0 := K.bx.at.c0
          go_wp2_with fail
          refine (awake4 W3).mono ?_
          rintro e wz ⟨rfl, hbz⟩
          go_wp2
          go_ret
          exact ⟨rfl, K.be.trans (hbz.mono K.be.size)⟩
        | false =>
          have n1 : R.k ≠ 1 := by rw [HK.out]; exact beq_eq_false_iff_ne.1 e1
          have n4 : R.k ≠ 4 := by rw [HK.out]; exact beq_eq_false_iff_ne.1 e4
          have n5 : R.k ≠ 5 := by rw [HK.out]; exact beq_eq_false_iff_ne.1 e5
          have x0 := K.bx.at.c0
          have y1 := K.bq.at.c1; have f1 := K.bq.frozen 1
          have K5' : ToI w r t q ⟨R.k, 1, R.g, R.A, R.ln, R.lc, R.u, R.s, R.B, R.m, R.d⟩ (.mk R.k 1 R.g t.mag R.u R.s t.args) (W3.setCell ⟨q, 1, none⟩ (.int .i64 1)) := by
            have kp := (Keeps.refl (fun b => b ≠ q) W3).setCell (p := ⟨q, 1, none⟩) (by simp) (.int .i64 1)
            exact ⟨K.bx.setO (g' := q) (by omega) 1 _, K.bq.set1 1, TVS.mk' F.k0 F.k1 (by omega) (by omega) F.u0 F.u1 (F.lim.keep hOL kp) F.cap hOL F.str (hAr.keep kp), K.be.setCell (p := ⟨q, 1, none⟩) (by simp only; omega) _, K.pq⟩
          have hmay : Tm.mayB (.mk R.k 1 R.g t.mag R.u R.s t.args) = false := odd_num n1 n4 n5
          have hoT : Tm.Ok (.mk R.k 1 R.g t.mag R.u R.s t.args) := Tm.ok_mk.2 ⟨hln, hbs, fun x hx => Ok.kids hok hx⟩
          have HK := Lib.hid K5'
          clear K5' K
          go_upto_region 22 with fail
          clear x0
          have K5 := HK
          clear HK
          obtain ⟨R', hR'⟩ : ∃ R' : TR, R' = ⟨R.k, 1, R.g, R.A, R.ln, R.lc, R.u, R.s, R.B, R.m, R.d⟩ := ⟨_, rfl⟩
          obtain ⟨T', hT'⟩ : ∃ T' : Tm, T' = (.mk R.k 1 R.g t.mag R.u R.s t.args) := ⟨_, rfl⟩
          rw [← hT'] at hmay hoT
          rw [← hR', ← hT'] at K5
          clear hR' hT' y1 f1
          generalize W3.setCell ⟨q, 1, none⟩ (.int .i64 1) = W5 at *
          have K6 := Lib.hid (K5.out.below (Below.refl _ _).drew)
          have hno := Lib.hid hmay
          have HOK := Lib.hid hoT
          clear hmay hoT
          go_region_held3 (fun w' => w'.cell? ⟨q, 0, none⟩ = some (.int .i64 R'.k) ∧ w'.cell? ⟨q, 1, none⟩ = some (.int .i64 R'.n) ∧ w'.cell? ⟨q, 2, none⟩ = some (.bool R'.g) ∧ w'.cell? ⟨q, 3, none⟩ = some (.slice R'.A R'.ln R'.lc) ∧ w'.cell? ⟨q, 4, none⟩ = some (.int .u64 R'.u) ∧ w'.cell? ⟨q, 5, none⟩ = some (.string R'.s) ∧ w'.cell? ⟨q, 6, none⟩ = some (.slice R'.B R'.m R'.d) ∧ w'.cell? ⟨w.heap.size, 0, none⟩ = some (.int .i64 r.k) ∧ w'.cell? ⟨w.heap.size, 1, none⟩ = some (.int .i64 r.n) ∧ w'.cell? ⟨w.heap.size, 2, none⟩ = some (.bool r.g) ∧ w'.cell? ⟨w.heap.size, 3, none⟩ = some (.slice r.A r.ln r.lc) ∧ w'.cell? ⟨w.heap.size, 4, none⟩ = some (.int .u64 r.u) ∧ w'.cell? ⟨w.heap.size, 5, none⟩ = some (.string r.s) ∧ w'.cell? ⟨w.heap.size, 6, none⟩ = some (.slice r.B r.m r.d))
            (first | exact ⟨K5.out.bq.at.c0, K5.out.bq.at.c1, K5.out.bq.at.c2, K5.out.bq.at.c3, K5.out.bq.at.c4, K5.out.bq.at.c5, K5.out.bq.at.c6, K5.out.bx.at.c0, K5.out.bx.at.c1, K5.out.bx.at.c2, K5.out.bx.at.c3, K5.out.bx.at.c4, K5.out.bx.at.c5, K5.out.bx.at.c6⟩ | exact ⟨K6.out.bq.at.c0, K6.out.bq.at.c1, K6.out.bq.at.c2, K6.out.bq.at.c3, K6.out.bq.at.c4, K6.out.bq.at.c5, K6.out.bq.at.c6, K6.out.bx.at.c0, K6.out.bx.at.c1, K6.out.bx.at.c2, K6.out.bx.at.c3, K6.out.bx.at.c4, K6.out.bx.at.c5, K6.out.bx.at.c6⟩)
            (first
              | (go_at_call 17; refine (mayTerm_any _ R' T' (by exact K6.out.tT.tv) HOK.out).mono ?_; rw [hno.out]; rintro e v ⟨rfl, hv⟩; have K7 := Lib.hid (K6.out.below hv); clear K6 hv; have K6 := K7; clear K7)
              | (go_at_call 24; refine (copyTerm_any t _ r (by exact htv.bel K6.out.be) hok hsz).mono ?_; rintro e v ⟨R9, rfl, hT9, hv⟩; have K7 := Lib.hid (K6.out.below hv); have T9 := Lib.hid hT9.tv; clear K6 hv hT9; have K6 := K7; clear K7)
              | (go_at_call 26; refine (same_light _ r t (by exact htv.bel K6.out.be) hok R9 t (by exact T9.out) hok hcap rfl).mono ?_; rw [Tm.sameB_refl]; rintro e v ⟨rfl, hv⟩; have K7 := Lib.hid (K6.out.below hv); clear K6 hv T9; have K6 := K7; clear K7)
              | (go_at_call 7; refine (awake4 _).mono ?_; rintro e v ⟨rfl, hv⟩; have K7 := Lib.hid (K6.out.below hv); clear K6 hv; have K6 := K7; clear K7))
          go_wp2
          go_ret
          exact ⟨rfl, K6.out.be⟩
      · cases e1 : (r.k == 2) with
        | true =>
          have x0 := K.bx.at.c0
          go_wp2_with fail
          refine (awake4 W3).mono ?_
          rintro e wz ⟨rfl, hbz⟩
          go_wp2
          go_ret
          exact ⟨rfl, K.be.trans (hbz.mono K.be.size)⟩
        | false =>
          have n1 : R.k ≠ 2 := by rw [HK.out]; exact beq_eq_false_iff_ne.1 e1
          have x0 := K.bx.at.c0
          have y2 := K.bq.at.c2
          have y3 := K.bq.at.c3
          have f2 := K.bq.frozen 2
          have f3 := K.bq.frozen 3
          have K5' : ToI w r t q ⟨R.k, R.n, false, some ⟨W3.heap.size, 0, none⟩, 1, 1, R.u, R.s, R.B, R.m, R.d⟩ (.mk R.k R.n false [1] R.u R.s t.args) (((W3.setCell ⟨q, 2, none⟩ (.bool false)).setCell ⟨q, 3, none⟩ (.slice (some ⟨W3.heap.size, 0, none⟩) 1 1)).alloc (.cells #[.int .u32 1] 49)) := by
            have kp := (((Keeps.refl (fun b => b ≠ q) W3).setCell (p := ⟨q, 2, none⟩) (by simp) (.bool false)).setCell (p := ⟨q, 3, none⟩) (by simp) (.slice (some ⟨W3.heap.size, 0, none⟩) 1 1)).alloc (.cells #[.int .u32 1] 49)
            have hsz3 : ((W3.setCell ⟨q, 2, none⟩ (.bool false)).setCell ⟨q, 3, none⟩ (.slice (some ⟨W3.heap.size, 0, none⟩) 1 1)).heap.size = W3.heap.size := by simp [World.setCell]
            have L := Lim.new ((W3.setCell ⟨q, 2, none⟩ (.bool false)).setCell ⟨q, 3, none⟩ (.slice (some ⟨W3.heap.size, 0, none⟩) 1 1)) [1] (by intro x hx; simp at hx; omega)
            rw [hsz3] at L
            exact ⟨((K.bx.setO (g' := q) (by omega) 2 _).setO (g' := q) (by omega) 3 _).below ((Below.refl _ _).alloc (Nat.le_refl _) _), (K.bq.set23 false (some ⟨W3.heap.size, 0, none⟩) 1 1).below ((Below.refl _ _).alloc (Nat.le_refl _) _), TVS.mk' F.k0 F.k1 F.n0 F.n1 F.u0 F.u1 L (by decide) (fun _ a e => by cases e; simp only; omega) F.str (hAr.keep kp), ((K.be.setCell (p := ⟨q, 2, none⟩) (by simp only; omega) _).setCell (p := ⟨q, 3, none⟩) (by simp only; omega) _).alloc (by rw [hsz3]; exact K.be.size) _, K.pq⟩
          have hmay : Tm.mayB (.mk R.k R.n false [1] R.u R.s t.args) = false := odd_mag n1
          have hoT : Tm.Ok (.mk R.k R.n false [1] R.u R.s t.args) := Tm.ok_mk.2 ⟨by simp, hbs, fun x hx => Ok.kids hok hx⟩
          have HK5 := Lib.hid K5'
          clear K5' K
          go_upto_region 22 with fail
          have K5 := HK5
          clear HK5
          obtain ⟨R', hR'⟩ : ∃ R' : TR, R' = ⟨R.k, R.n, false, some ⟨W3.heap.size, 0, none⟩, 1, 1, R.u, R.s, R.B, R.m, R.d⟩ := ⟨_, rfl⟩
          obtain ⟨T', hT'⟩ : ∃ T' : Tm, T' = (.mk R.k R.n false [1] R.u R.s t.args) := ⟨_, rfl⟩
          rw [← hT'] at hmay hoT
          rw [← hR', ← hT'] at K5
          clear hR' hT' x0 y2 y3 f2 f3
          generalize ((W3.setCell ⟨q, 2, none⟩ (.bool false)).setCell ⟨q, 3, none⟩ (.slice (some ⟨W3.heap.size, 0, none⟩) 1 1)).alloc (.cells #[.int .u32 1] 49) = W5 at *
          have K6 := Lib.hid (K5.out.below (Below.refl _ _).drew)
          have hno := Lib.hid hmay
          have HOK := Lib.hid hoT
          clear hmay hoT
          go_region_held3 (fun w' => w'.cell? ⟨q, 0, none⟩ = some (.int .i64 R'.k) ∧ w'.cell? ⟨q, 1, none⟩ = some (.int .i64 R'.n) ∧ w'.cell? ⟨q, 2, none⟩ = some (.bool R'.g) ∧ w'.cell? ⟨q, 3, none⟩ = some (.slice R'.A R'.ln R'.lc) ∧ w'.cell? ⟨q, 4, none⟩ = some (.int .u64 R'.u) ∧ w'.cell? ⟨q, 5, none⟩ = some (.string R'.s) ∧ w'.cell? ⟨q, 6, none⟩ = some (.slice R'.B R'.m R'.d) ∧ w'.cell? ⟨w.heap.size, 0, none⟩ = some (.int .i64 r.k) ∧ w'.cell? ⟨w.heap.size, 1, none⟩ = some (.int .i64 r.n) ∧ w'.cell? ⟨w.heap.size, 2, none⟩ = some (.bool r.g) ∧ w'.cell? ⟨w.heap.size, 3, none⟩ = some (.slice r.A r.ln r.lc) ∧ w'.cell? ⟨w.heap.size, 4, none⟩ = some (.int .u64 r.u) ∧ w'.cell? ⟨w.heap.size, 5, none⟩ = some (.string r.s) ∧ w'.cell? ⟨w.heap.size, 6, none⟩ = some (.slice r.B r.m r.d))
            (first | exact ⟨K5.out.bq.at.c0, K5.out.bq.at.c1, K5.out.bq.at.c2, K5.out.bq.at.c3, K5.out.bq.at.c4, K5.out.bq.at.c5, K5.out.bq.at.c6, K5.out.bx.at.c0, K5.out.bx.at.c1, K5.out.bx.at.c2, K5.out.bx.at.c3, K5.out.bx.at.c4, K5.out.bx.at.c5, K5.out.bx.at.c6⟩ | exact ⟨K6.out.bq.at.c0, K6.out.bq.at.c1, K6.out.bq.at.c2, K6.out.bq.at.c3, K6.out.bq.at.c4, K6.out.bq.at.c5, K6.out.bq.at.c6, K6.out.bx.at.c0, K6.out.bx.at.c1, K6.out.bx.at.c2, K6.out.bx.at.c3, K6.out.bx.at.c4, K6.out.bx.at.c5, K6.out.bx.at.c6⟩)
            (first
              | (go_at_call 17; refine (mayTerm_any _ R' T' (by exact K6.out.tT.tv) HOK.out).mono ?_; rw [hno.out]; rintro e v ⟨rfl, hv⟩; have K7 := Lib.hid (K6.out.below hv); clear K6 hv; have K6 := K7; clear K7)
              | (go_at_call 24; refine (copyTerm_any t _ r (by exact htv.bel K6.out.be) hok hsz).mono ?_; rintro e v ⟨R9, rfl, hT9, hv⟩; have K7 := Lib.hid (K6.out.below hv); have T9 := Lib.hid hT9.tv; clear K6 hv hT9; have K6 := K7; clear K7)
              | (go_at_call 26; refine (same_light _ r t (by exact htv.bel K6.out.be) hok R9 t (by exact T9.out) hok hcap rfl).mono ?_; rw [Tm.sameB_refl]; rintro e v ⟨rfl, hv⟩; have K7 := Lib.hid (K6.out.below hv); clear K6 hv T9; have K6 := K7; clear K7)
              | (go_at_call 7; refine (awake4 _).mono ?_; rintro e v ⟨rfl, hv⟩; have K7 := Lib.hid (K6.out.below hv); clear K6 hv; have K6 := K7; clear K7))
          go_wp2
          go_ret
          exact ⟨rfl, K6.out.be⟩
      · cases e1 : (r.k == 3) with
        | true =>
          have x0 := K.bx.at.c0
          go_wp2_with fail
          refine (awake4 W3).mono ?_
          rintro e wz ⟨rfl, hbz⟩
          go_wp2
          go_ret
          exact ⟨rfl, K.be.trans (hbz.mono K.be.size)⟩
        | false =>
          have n1 : R.k ≠ 3 := by rw [HK.out]; exact beq_eq_false_iff_ne.1 e1
          have x0 := K.bx.at.c0
          have y4 := K.bq.at.c4
          have f4 := K.bq.frozen 4
          have K5' : ToI w r t q ⟨R.k, R.n, R.g, R.A, R.ln, R.lc, 1, R.s, R.B, R.m, R.d⟩ (.mk R.k R.n R.g t.mag 1 R.s t.args) (W3.setCell ⟨q, 4, none⟩ (.int .u64 1)) := by
            have kp := (Keeps.refl (fun b => b ≠ q) W3).setCell (p := ⟨q, 4, none⟩) (by simp) (.int .u64 1)
            exact ⟨K.bx.setO (g' := q) (by omega) 4 _, K.bq.set4 1, TVS.mk' F.k0 F.k1 F.n0 F.n1 (by omega) (by omega) (F.lim.keep hOL kp) F.cap hOL F.str (hAr.keep kp), K.be.setCell (p := ⟨q, 4, none⟩) (by simp only; omega) _, K.pq⟩
          have hmay : Tm.mayB (.mk R.k R.n R.g t.mag 1 R.s t.args) = false := odd_bits n1
          have hoT : Tm.Ok (.mk R.k R.n R.g t.mag 1 R.s t.args) := Tm.ok_mk.2 ⟨hln, hbs, fun x hx => Ok.kids hok hx⟩
          have HK5 := Lib.hid K5'
          clear K5' K
          go_upto_region 22 with fail
          have K5 := HK5
          clear HK5
          obtain ⟨R', hR'⟩ : ∃ R' : TR, R' = ⟨R.k, R.n, R.g, R.A, R.ln, R.lc, 1, R.s, R.B, R.m, R.d⟩ := ⟨_, rfl⟩
          obtain ⟨T', hT'⟩ : ∃ T' : Tm, T' = (.mk R.k R.n R.g t.mag 1 R.s t.args) := ⟨_, rfl⟩
          rw [← hT'] at hmay hoT
          rw [← hR', ← hT'] at K5
          clear hR' hT' x0 y4 f4
          generalize W3.setCell ⟨q, 4, none⟩ (.int .u64 1) = W5 at *
          have K6 := Lib.hid (K5.out.below (Below.refl _ _).drew)
          have hno := Lib.hid hmay
          have HOK := Lib.hid hoT
          clear hmay hoT
          go_region_held3 (fun w' => w'.cell? ⟨q, 0, none⟩ = some (.int .i64 R'.k) ∧ w'.cell? ⟨q, 1, none⟩ = some (.int .i64 R'.n) ∧ w'.cell? ⟨q, 2, none⟩ = some (.bool R'.g) ∧ w'.cell? ⟨q, 3, none⟩ = some (.slice R'.A R'.ln R'.lc) ∧ w'.cell? ⟨q, 4, none⟩ = some (.int .u64 R'.u) ∧ w'.cell? ⟨q, 5, none⟩ = some (.string R'.s) ∧ w'.cell? ⟨q, 6, none⟩ = some (.slice R'.B R'.m R'.d) ∧ w'.cell? ⟨w.heap.size, 0, none⟩ = some (.int .i64 r.k) ∧ w'.cell? ⟨w.heap.size, 1, none⟩ = some (.int .i64 r.n) ∧ w'.cell? ⟨w.heap.size, 2, none⟩ = some (.bool r.g) ∧ w'.cell? ⟨w.heap.size, 3, none⟩ = some (.slice r.A r.ln r.lc) ∧ w'.cell? ⟨w.heap.size, 4, none⟩ = some (.int .u64 r.u) ∧ w'.cell? ⟨w.heap.size, 5, none⟩ = some (.string r.s) ∧ w'.cell? ⟨w.heap.size, 6, none⟩ = some (.slice r.B r.m r.d))
            (first | exact ⟨K5.out.bq.at.c0, K5.out.bq.at.c1, K5.out.bq.at.c2, K5.out.bq.at.c3, K5.out.bq.at.c4, K5.out.bq.at.c5, K5.out.bq.at.c6, K5.out.bx.at.c0, K5.out.bx.at.c1, K5.out.bx.at.c2, K5.out.bx.at.c3, K5.out.bx.at.c4, K5.out.bx.at.c5, K5.out.bx.at.c6⟩ | exact ⟨K6.out.bq.at.c0, K6.out.bq.at.c1, K6.out.bq.at.c2, K6.out.bq.at.c3, K6.out.bq.at.c4, K6.out.bq.at.c5, K6.out.bq.at.c6, K6.out.bx.at.c0, K6.out.bx.at.c1, K6.out.bx.at.c2, K6.out.bx.at.c3, K6.out.bx.at.c4, K6.out.bx.at.c5, K6.out.bx.at.c6⟩)
            (first
              | (go_at_call 17; refine (mayTerm_any _ R' T' (by exact K6.out.tT.tv) HOK.out).mono ?_; rw [hno.out]; rintro e v ⟨rfl, hv⟩; have K7 := Lib.hid (K6.out.below hv); clear K6 hv; have K6 := K7; clear K7)
              | (go_at_call 24; refine (copyTerm_any t _ r (by exact htv.bel K6.out.be) hok hsz).mono ?_; rintro e v ⟨R9, rfl, hT9, hv⟩; have K7 := Lib.hid (K6.out.below hv); have T9 := Lib.hid hT9.tv; clear K6 hv hT9; have K6 := K7; clear K7)
              | (go_at_call 26; refine (same_light _ r t (by exact htv.bel K6.out.be) hok R9 t (by exact T9.out) hok hcap rfl).mono ?_; rw [Tm.sameB_refl]; rintro e v ⟨rfl, hv⟩; have K7 := Lib.hid (K6.out.below hv); clear K6 hv T9; have K6 := K7; clear K7)
              | (go_at_call 7; refine (awake4 _).mono ?_; rintro e v ⟨rfl, hv⟩; have K7 := Lib.hid (K6.out.below hv); clear K6 hv; have K6 := K7; clear K7))
          go_wp2
          go_ret
          exact ⟨rfl, K6.out.be⟩
      · cases e1 : (r.k == 9) with
        | true =>
          have x0 := K.bx.at.c0
          go_wp2_with fail
          refine (awake4 W3).mono ?_
          rintro e wz ⟨rfl, hbz⟩
          go_wp2
          go_ret
          exact ⟨rfl, K.be.trans (hbz.mono K.be.size)⟩
        | false =>
          have n1 : R.k ≠ 9 := by rw [HK.out]; exact beq_eq_false_iff_ne.1 e1
          have x0 := K.bx.at.c0
          have y5 := K.bq.at.c5
          have f5 := K.bq.frozen 5
          have K5' : ToI w r t q ⟨R.k, R.n, R.g, R.A, R.ln, R.lc, R.u, ⟨#[120]⟩, R.B, R.m, R.d⟩ (.mk R.k R.n R.g t.mag R.u ⟨#[120]⟩ t.args) (W3.setCell ⟨q, 5, none⟩ (.string ⟨#[120]⟩)) := by
            have kp := (Keeps.refl (fun b => b ≠ q) W3).setCell (p := ⟨q, 5, none⟩) (by simp) (.string ⟨#[120]⟩)
            exact ⟨K.bx.setO (g' := q) (by omega) 5 _, K.bq.set5 ⟨#[120]⟩, TVS.mk' F.k0 F.k1 F.n0 F.n1 F.u0 F.u1 (F.lim.keep hOL kp) F.cap hOL (by decide) (hAr.keep kp), K.be.setCell (p := ⟨q, 5, none⟩) (by simp only; omega) _, K.pq⟩
          have hmay : Tm.mayB (.mk R.k R.n R.g t.mag R.u ⟨#[120]⟩ t.args) = false := odd_bytes n1
          have hoT : Tm.Ok (.mk R.k R.n R.g t.mag R.u ⟨#[120]⟩ t.args) := Tm.ok_mk.2 ⟨hln, by decide, fun x hx => Ok.kids hok hx⟩
          have HK5 := Lib.hid K5'
          clear K5' K
          go_upto_region 22 with fail
          have K5 := HK5
          clear HK5
          obtain ⟨R', hR'⟩ : ∃ R' : TR, R' = ⟨R.k, R.n, R.g, R.A, R.ln, R.lc, R.u, ⟨#[120]⟩, R.B, R.m, R.d⟩ := ⟨_, rfl⟩
          obtain ⟨T', hT'⟩ : ∃ T' : Tm, T' = (.mk R.k R.n R.g t.mag R.u ⟨#[120]⟩ t.args) := ⟨_, rfl⟩
          rw [← hT'] at hmay hoT
          rw [← hR', ← hT'] at K5
          clear hR' hT' x0 y5 f5
          generalize W3.setCell ⟨q, 5, none⟩ (.string ⟨#[120]⟩) = W5 at *
          have K6 := Lib.hid (K5.out.below (Below.refl _ _).drew)
          have hno := Lib.hid hmay
          have HOK := Lib.hid hoT
          clear hmay hoT
          go_region_held3 (fun w' => w'.cell? ⟨q, 0, none⟩ = some (.int .i64 R'.k) ∧ w'.cell? ⟨q, 1, none⟩ = some (.int .i64 R'.n) ∧ w'.cell? ⟨q, 2, none⟩ = some (.bool R'.g) ∧ w'.cell? ⟨q, 3, none⟩ = some (.slice R'.A R'.ln R'.lc) ∧ w'.cell? ⟨q, 4, none⟩ = some (.int .u64 R'.u) ∧ w'.cell? ⟨q, 5, none⟩ = some (.string R'.s) ∧ w'.cell? ⟨q, 6, none⟩ = some (.slice R'.B R'.m R'.d) ∧ w'.cell? ⟨w.heap.size, 0, none⟩ = some (.int .i64 r.k) ∧ w'.cell? ⟨w.heap.size, 1, none⟩ = some (.int .i64 r.n) ∧ w'.cell? ⟨w.heap.size, 2, none⟩ = some (.bool r.g) ∧ w'.cell? ⟨w.heap.size, 3, none⟩ = some (.slice r.A r.ln r.lc) ∧ w'.cell? ⟨w.heap.size, 4, none⟩ = some (.int .u64 r.u) ∧ w'.cell? ⟨w.heap.size, 5, none⟩ = some (.string r.s) ∧ w'.cell? ⟨w.heap.size, 6, none⟩ = some (.slice r.B r.m r.d))
            (first | exact ⟨K5.out.bq.at.c0, K5.out.bq.at.c1, K5.out.bq.at.c2, K5.out.bq.at.c3, K5.out.bq.at.c4, K5.out.bq.at.c5, K5.out.bq.at.c6, K5.out.bx.at.c0, K5.out.bx.at.c1, K5.out.bx.at.c2, K5.out.bx.at.c3, K5.out.bx.at.c4, K5.out.bx.at.c5, K5.out.bx.at.c6⟩ | exact ⟨K6.out.bq.at.c0, K6.out.bq.at.c1, K6.out.bq.at.c2, K6.out.bq.at.c3, K6.out.bq.at.c4, K6.out.bq.at.c5, K6.out.bq.at.c6, K6.out.bx.at.c0, K6.out.bx.at.c1, K6.out.bx.at.c2, K6.out.bx.at.c3, K6.out.bx.at.c4, K6.out.bx.at.c5, K6.out.bx.at.c6⟩)
            (first
              | (go_at_call 17; refine (mayTerm_any _ R' T' (by exact K6.out.tT.tv) HOK.out).mono ?_; rw [hno.out]; rintro e v ⟨rfl, hv⟩; have K7 := Lib.hid (K6.out.below hv); clear K6 hv; have K6 := K7; clear K7)
              | (go_at_call 24; refine (copyTerm_any t _ r (by exact htv.bel K6.out.be) hok hsz).mono ?_; rintro e v ⟨R9, rfl, hT9, hv⟩; have K7 := Lib.hid (K6.out.below hv); have T9 := Lib.hid hT9.tv; clear K6 hv hT9; have K6 := K7; clear K7)
              | (go_at_call 26; refine (same_light _ r t (by exact htv.bel K6.out.be) hok R9 t (by exact T9.out) hok hcap rfl).mono ?_; rw [Tm.sameB_refl]; rintro e v ⟨rfl, hv⟩; have K7 := Lib.hid (K6.out.below hv); clear K6 hv T9; have K6 := K7; clear K7)
              | (go_at_call 7; refine (awake4 _).mono ?_; rintro e v ⟨rfl, hv⟩; have K7 := Lib.hid (K6.out.below hv); clear K6 hv; have K6 := K7; clear K7))
          go_wp2
          go_ret
          exact ⟨rfl, K6.out.be⟩
      · have x0 := K.bx.at.c0
        have y6 := K.bq.at.c6
        obtain ⟨B1, d1, w5, run1, B2, d2, w6, run2, hA2, hbb⟩ := app_two hAr hrm 28
        have HR1 := Lib.hid run1
        have HR2 := Lib.hid run2
        clear run1 run2
        have z6 := (K.bq.below hbb).at.c6
        have f6 := (K.bq.below hbb).frozen 6
        have K5' : ToI w r t q ⟨R.k, R.n, R.g, R.A, R.ln, R.lc, R.u, R.s, B2, R.m + 1, d2⟩ (.mk R.k R.n R.g t.mag R.u R.s (t.args ++ [.mk 0 0 false [] 0 ⟨#[]⟩ []])) (w6.setCell ⟨q, 6, none⟩ (.slice B2 (R.m + 1) d2)) := by
          have kp := (Keeps.refl (fun b => b ≠ q) w6).setCell (p := ⟨q, 6, none⟩) (by simp) (.slice B2 (R.m + 1) d2)
          have K2 := K.below hbb
          exact ⟨K2.bx.setO (g' := q) (by omega) 6 _, K2.bq.set6 B2 (R.m + 1) d2, TVS.mk' F.k0 F.k1 F.n0 F.n1 F.u0 F.u1 ((F.lim.below hbb).keep hOL kp) F.cap hOL F.str ((hA2.mono (fun b hb => hb.elim id (fun h => by omega))).keep kp), K2.be.setCell (p := ⟨q, 6, none⟩) (by simp only; omega) _, K.pq⟩
        have hmay : Tm.mayB (.mk R.k R.n R.g t.mag R.u R.s (t.args ++ [.mk 0 0 false [] 0 ⟨#[]⟩ []])) = false := odd_arg
        have hoT : Tm.Ok (.mk R.k R.n R.g t.mag R.u R.s (t.args ++ [.mk 0 0 false [] 0 ⟨#[]⟩ []])) := Tm.ok_mk.2 ⟨hln, hbs, fun x hx => by
          rcases List.mem_append.1 hx with hx | hx
          · exact Ok.kids hok hx
          · simp at hx; subst hx; simp [Tm.Ok, Tm.Oks, ByteArray.size]⟩
        have HK5 := Lib.hid K5'
        clear K5' K
        go_upto_region 22 with (first | (at_builtin; refine wpList_append_run rfl _ _ _ rfl _ _ _ rfl rfl HR1.out ?_) | (at_builtin; refine wpList_append_run rfl _ _ _ rfl _ _ _ rfl rfl HR2.out ?_))
        have K5 := HK5
        clear HK5
        obtain ⟨R', hR'⟩ : ∃ R' : TR, R' = ⟨R.k, R.n, R.g, R.A, R.ln, R.lc, R.u, R.s, B2, R.m + 1, d2⟩ := ⟨_, rfl⟩
        obtain ⟨T', hT'⟩ : ∃ T' : Tm, T' = (.mk R.k R.n R.g t.mag R.u R.s (t.args ++ [.mk 0 0 false [] 0 ⟨#[]⟩ []])) := ⟨_, rfl⟩
        rw [← hT'] at hmay hoT
        rw [← hR', ← hT'] at K5
        clear hR' hT' x0 y6 z6 f6
        generalize w6.setCell ⟨q, 6, none⟩ (.slice B2 (R.m + 1) d2) = W5 at *
        have K6 := Lib.hid (K5.out.below (Below.refl _ _).drew)
        have hno := Lib.hid hmay
        have HOK := Lib.hid hoT
        clear hmay hoT
        go_region_held3 (fun w' => w'.cell? ⟨q, 0, none⟩ = some (.int .i64 R'.k) ∧ w'.cell? ⟨q, 1, none⟩ = some (.int .i64 R'.n) ∧ w'.cell? ⟨q, 2, none⟩ = some (.bool R'.g) ∧ w'.cell? ⟨q, 3, none⟩ = some (.slice R'.A R'.ln R'.lc) ∧ w'.cell? ⟨q, 4, none⟩ = some (.int .u64 R'.u) ∧ w'.cell? ⟨q, 5, none⟩ = some (.string R'.s) ∧ w'.cell? ⟨q, 6, none⟩ = some (.slice R'.B R'.m R'.d) ∧ w'.cell? ⟨w.heap.size, 0, none⟩ = some (.int .i64 r.k) ∧ w'.cell? ⟨w.heap.size, 1, none⟩ = some (.int .i64 r.n) ∧ w'.cell? ⟨w.heap.size, 2, none⟩ = some (.bool r.g) ∧ w'.cell? ⟨w.heap.size, 3, none⟩ = some (.slice r.A r.ln r.lc) ∧ w'.cell? ⟨w.heap.size, 4, none⟩ = some (.int .u64 r.u) ∧ w'.cell? ⟨w.heap.size, 5, none⟩ = some (.string r.s) ∧ w'.cell? ⟨w.heap.size, 6, none⟩ = some (.slice r.B r.m r.d))
          (first | exact ⟨K5.out.bq.at.c0, K5.out.bq.at.c1, K5.out.bq.at.c2, K5.out.bq.at.c3, K5.out.bq.at.c4, K5.out.bq.at.c5, K5.out.bq.at.c6, K5.out.bx.at.c0, K5.out.bx.at.c1, K5.out.bx.at.c2, K5.out.bx.at.c3, K5.out.bx.at.c4, K5.out.bx.at.c5, K5.out.bx.at.c6⟩ | exact ⟨K6.out.bq.at.c0, K6.out.bq.at.c1, K6.out.bq.at.c2, K6.out.bq.at.c3, K6.out.bq.at.c4, K6.out.bq.at.c5, K6.out.bq.at.c6, K6.out.bx.at.c0, K6.out.bx.at.c1, K6.out.bx.at.c2, K6.out.bx.at.c3, K6.out.bx.at.c4, K6.out.bx.at.c5, K6.out.bx.at.c6⟩)
          (first
            | (go_at_call 17; refine (mayTerm_any _ R' T' (by exact K6.out.tT.tv) HOK.out).mono ?_; rw [hno.out]; rintro e v ⟨rfl, hv⟩; have K7 := Lib.hid (K6.out.below hv); clear K6 hv; have K6 := K7; clear K7)
            | (go_at_call 24; refine (copyTerm_any t _ r (by exact htv.bel K6.out.be) hok hsz).mono ?_; rintro e v ⟨R9, rfl, hT9, hv⟩; have K7 := Lib.hid (K6.out.below hv); have T9 := Lib.hid hT9.tv; clear K6 hv hT9; have K6 := K7; clear K7)
            | (go_at_call 26; refine (same_light _ r t (by exact htv.bel K6.out.be) hok R9 t (by exact T9.out) hok hcap rfl).mono ?_; rw [Tm.sameB_refl]; rintro e v ⟨rfl, hv⟩; have K7 := Lib.hid (K6.out.below hv); clear K6 hv T9; have K6 := K7; clear K7)
            | (go_at_call 7; refine (awake4 _).mono ?_; rintro e v ⟨rfl, hv⟩; have K7 := Lib.hid (K6.out.below hv); clear K6 hv; have K6 := K7; clear K7))
        go_wp2
        go_ret
        exact ⟨rfl, K6.out.be⟩
end Go.Proofs.Ytailmmpbfajdcaa
