/-
  THE REFERENCE's Sort (chapter 5).
  THE REFERENCE's Sort (chapter 5): one term is put into a row of its own, in both orders in which it may be done.
-/
import Derived.Test.YtmcfokeibecopaaK19
import Derived.Test.YtmcfokeibecopaaK17
namespace Go.Proofs.Ytmcfokeibecopaa
open Go.RowKit
open Od

/-- A row of records of one's own. -/
def RowV (w : World) (base : Nat) (B : Option Addr) (m d : Nat) (V : Nat → TR) : Prop := w.ownsRow base 28 7 (.slice B m d) m (rcells V m)
/-- One row behind the other. -/
def cat (V : Nat → TR) (m : Nat) (V' : Nat → TR) : Nat → TR := fun i => if i < m then V i else V' (i - m)
set_option maxRecDepth 100000 in
theorem rcells_cat (V V' : Nat → TR) (m k : Nat) : rcells (cat V m V') (m + k) = rcells V m ++ rcells V' k := by
  induction k with
  | zero =>
    rw [Nat.add_zero, rcells, List.append_nil]
    exact rcells_congr fun i hi => by unfold cat; rw [if_pos hi]
  | succ k ih =>
    rw [← Nat.add_assoc, rcells, ih, rcells, List.append_assoc]
    congr 2
    unfold cat
    rw [if_neg (by omega), show m + k - m = k by omega]
set_option maxRecDepth 100000 in
theorem RowV.nil (w : World) (base : Nat) (V : Nat → TR) : RowV w base none 0 0 V := World.ownsRow_nil _ _ _ _
set_option maxRecDepth 100000 in
theorem RowV.md {w : World} {base : Nat} {B : Option Addr} {m d : Nat} {V : Nat → TR} (h : RowV w base B m d V) : m ≤ d ∧ d ≤ maxLen := by
  rcases h.2 with ⟨h0, h0'⟩ | ⟨g, cap, cur, hv, hbg, hg, h1, h2, _⟩
  · cases h0; exact ⟨Nat.le_refl _, Nat.zero_le _⟩
  · cases hv; exact ⟨h1, h2⟩
set_option maxRecDepth 100000 in
theorem RowV.form {w : World} {base : Nat} {B : Option Addr} {m d : Nat} {V : Nat → TR} (h : RowV w base B m d V) : (B = none ∧ m = 0 ∧ d = 0) ∨ ∃ g, B = some ⟨g, 0, none⟩ ∧ base ≤ g ∧ g < w.heap.size := by
  rcases h.2 with ⟨h0, h0'⟩ | ⟨g, cap, cur, hv, hbg, hg, h1, h2, _⟩
  · cases h0; exact .inl ⟨rfl, rfl, rfl⟩
  · cases hv; exact .inr ⟨g, rfl, hbg, (Array.getElem?_eq_some_iff.1 hg).1⟩
set_option maxRecDepth 100000 in
theorem RowV.below {w w' : World} {base m d : Nat} {B : Option Addr} {V : Nat → TR} (h : RowV w base B m d V) (hb : Below w.heap.size w w') : RowV w' base B m d V := by
  refine ⟨h.1, ?_⟩
  rcases h.2 with h0 | ⟨g, cap, cur, hv, hbg, hg, rest⟩
  · exact .inl h0
  · exact .inr ⟨g, cap, cur, hv, hbg, (hb.block g (Array.getElem?_eq_some_iff.1 hg).1).trans hg, rest⟩
set_option maxRecDepth 100000 in
theorem RowV.spread {w : World} {base : Nat} {B : Option Addr} {m d : Nat} {V : Nat → TR} (h : RowV w base B m d V) : Spread w B m V := by
  intro hm
  rcases h.2 with ⟨h0, h0'⟩ | ⟨g, cap, cur, hv, hbg, hg, _⟩
  · omega
  · cases hv
    refine ⟨g, 0, rfl, (Array.getElem?_eq_some_iff.1 hg).1, fun i hi => At7.of fun j hj => ?_⟩
    rw [add_none, World.ownsRow.cellAt h _ (by omega), Nat.zero_add, rcells_get V hi hj]
set_option maxRecDepth 100000 in
/-- Records are put behind. -/
theorem app_rows (w : World) (base : Nat) (B : Option Addr) (m d : Nat) (V : Nat → TR) (h : RowV w base B m d V) (A : Option Addr) (k c : Nat) (V' : Nat → TR) (hs : Spread w A k V') (hA : A = none → k = 0) (hsp : ∀ a, A = some a → a.spot = none) (hm : m + k ≤ 100000) (hbase : base ≤ w.heap.size) (ty : TypeId) :
    ∃ B' d' w', (Builtin.append_ #[26, 26] ty #[.slice B m d, .slice A k c]).run Try.prog w = .ok (.slice B' (m + k) d') w' ∧ RowV w' base B' (m + k) d' (cat V m V') ∧ Below base w w' ∧ (∀ b, b < w.heap.size → (Value.slice B m d).ownBlock ≠ some b → w'.heap[b]? = w.heap[b]?) ∧ w.heap.size ≤ w'.heap.size ∧ ((Value.slice B' (m + k) d').ownBlock = (Value.slice B m d).ownBlock ∨ (Value.slice B' (m + k) d').ownBlock = some w.heap.size) := by
  obtain ⟨i, hi, hz, hsz, hb⟩ := info_term'
  cases A with
  | none =>
    have hk := hA rfl
    subst hk
    have hcat : RowV w base B (m + 0) d (cat V m V') := by
      unfold RowV
      rw [rcells_cat, Nat.add_zero, rcells, List.append_nil]
      exact h
    refine ⟨B, d, w, ?_, hcat, Below.refl _ _, fun _ _ _ => rfl, Nat.le_refl _, .inl rfl⟩
    rcases h.2 with ⟨hv, h0⟩ | ⟨g, cap, cur, hv, _, _, hnc, _⟩
    · cases hv
      simp [Builtin.append_, run_underlying und_terms, sizeOf, typeInfo, hi, Builtin.lenOf, Builtin.firstCells]
    · cases hv
      simp [Builtin.append_, run_underlying und_terms, sizeOf, typeInfo, hi, Builtin.lenOf, Builtin.firstCells, hnc, storeCells]
  | some a =>
    obtain ⟨ab, ao, as'⟩ := a
    have hspot := hsp _ rfl
    simp only at hspot
    subst hspot
    have hcells : ∀ j u, (rcells V' k)[j]? = some u → w.cell? ((⟨ab, ao, none⟩ : Addr).add j) = some u := by
      intro j u hu
      have hj : j < k * 7 := by
        have := (List.getElem?_eq_some_iff.1 hu).1
        rw [rcells_len] at this
        exact this
      obtain ⟨b', o', e, _, hat⟩ := hs (by omega)
      cases e
      have h7 := hat (j / 7) (by omega)
      have hg := rcells_get V' (m := k) (i := j / 7) (j := j % 7) (by omega) (by omega)
      rw [show j / 7 * 7 + j % 7 = j by omega] at hg
      rw [hg] at hu
      rw [add_none, show ao + j = ao + j / 7 * 7 + j % 7 by omega]
      have hr : j % 7 < 7 := by omega
      generalize j % 7 = x at *
      have hx : x = 0 ∨ x = 1 ∨ x = 2 ∨ x = 3 ∨ x = 4 ∨ x = 5 ∨ x = 6 := by omega
      rcases hx with rfl | rfl | rfl | rfl | rfl | rfl | rfl <;> simp [TR.cells] at hu <;> subst hu
      · exact h7.c0
      · exact h7.c1
      · exact h7.c2
      · exact h7.c3
      · exact h7.c4
      · exact h7.c5
      · exact h7.c6
    have hone : ∀ u ∈ rcells V' k, u.oneCell' = true := by
      intro u hu
      obtain ⟨j, hj⟩ := List.getElem?_of_mem hu
      have hjl := (List.getElem?_eq_some_iff.1 hj).1
      rw [rcells_len] at hjl
      have hg := rcells_get V' (m := k) (i := j / 7) (j := j % 7) (by omega) (by omega)
      rw [show j / 7 * 7 + j % 7 = j by omega, hj] at hg
      exact cells_one _ (List.mem_of_getElem? hg.symm)
    obtain ⟨v', w', hrun, ho, hg, hn, hloc⟩ := run_append_own_at (P := Try.prog) w base 26 ty 28 i _ 7 96 und_terms hi hz hsz hb rfl (by decide) (.slice B m d) m (rcells V m) h ⟨ab, ao, none⟩ k c (rcells V' k) (rcells_len _ _) hcells hone (by unfold maxLen; omega) (by omega) hbase
    have hform : ∃ B' d', v' = .slice B' (m + k) d' := by
      rcases ho.2 with ⟨h0, h0'⟩ | ⟨g, cap, cur, rfl, _⟩
      · exact ⟨none, 0, by rw [h0, h0']⟩
      · exact ⟨_, _, rfl⟩
    obtain ⟨B', d', rfl⟩ := hform
    have hrow : ∀ k, (Value.slice B m d).ownBlock = some k → base ≤ k := fun k hk => (World.ownsRow.lt h k hk).1
    refine ⟨B', d', w', hrun, ?_, (Below.refl base w).grown hg hbase hrow, fun b hb hne => hg.block b hb (fun e => hne e.symm), hg.size, hloc⟩
    unfold RowV
    rw [rcells_cat]
    exact ho
end Go.Proofs.Ytmcfokeibecopaa

namespace Go.Proofs.Ytmcfokeibecopaa
open Go.RowKit
open Od

/-- What stands while the reference sorts: j are put in. -/
structure RsI (w : World) (ts : List Tm) (B : Option Addr) (j d : Nat) (us : List Tm) (V : Nat → TR) (W : World) : Prop where
  be : Below w.heap.size w W
  row : RowV W w.heap.size B j d V
  tv : ∀ i t, us[i]? = some t → TV w (V i) t
  len : us.length = j
  rise : Rise us
  perm : us.Perm (ts.take j)
set_option maxRecDepth 100000 in
theorem RsI.below {w : World} {ts : List Tm} {B : Option Addr} {j d : Nat} {us : List Tm} {V : Nat → TR} {W W' : World} (h : RsI w ts B j d us V W) (hb : Below W.heap.size W W') : RsI w ts B j d us V W' :=
  ⟨h.be.trans (hb.mono h.be.size), h.row.below hb, h.tv, h.len, h.rise, h.perm⟩
set_option maxRecDepth 100000 in
theorem RsI.drew {w : World} {ts : List Tm} {B : Option Addr} {j d : Nat} {us : List Tm} {V : Nat → TR} {W : World} (h : RsI w ts B j d us V W) : RsI w ts B j d us V W.drew := h.below (Below.refl _ _).drew
set_option maxRecDepth 100000 in
theorem RowV.mono {w : World} {base base' : Nat} {B : Option Addr} {m d : Nat} {V : Nat → TR} (h : RowV w base B m d V) (hb : base' ≤ base) : RowV w base' B m d V := by
  refine ⟨h.1, ?_⟩
  rcases h.2 with h0 | ⟨g, cap, cur, hv, hbg, rest⟩
  · exact .inl h0
  · exact .inr ⟨g, cap, cur, hv, Nat.le_trans hb hbg, rest⟩
/-- A part of a row: where it lies. -/
structure Part (W : World) (A : Option Addr) (k : Nat) (V : Nat → TR) : Prop where
  sp : Spread W A k V
  nil : A = none → k = 0
  spot : ∀ a, A = some a → a.spot = none
set_option maxRecDepth 100000 in
theorem Part.below {W W' : World} {A : Option Addr} {k : Nat} {V : Nat → TR} (h : Part W A k V) (hb : Below W.heap.size W W') : Part W' A k V := ⟨h.sp.below hb, h.nil, h.spot⟩
set_option maxRecDepth 100000 in
theorem Part.one (W : World) (r : TR) : Part (W.alloc (.cells #[.int .i64 r.k, .int .i64 r.n, .bool r.g, .slice r.A r.ln r.lc, .int .u64 r.u, .string r.s, .slice r.B r.m r.d] 28)) (some ⟨W.heap.size, 0, .none⟩) 1 (fun _ => r) := by
  refine ⟨fun _ => ⟨_, _, rfl, by simp, fun i hi => ?_⟩, (fun h => by cases h), (fun a e => by cases e; rfl)⟩
  rw [show i = 0 by omega]
  exact (Box7.new W r).at
set_option maxRecDepth 100000 in
theorem RowV.parts {w : World} {base g : Nat} {m d k : Nat} {V : Nat → TR} (h : RowV w base (some ⟨g, 0, none⟩) m d V) (hk : k ≤ m) : Part w (some ⟨g, 0, none⟩) k V ∧ Part w (some ⟨g, k * 7, none⟩) (m - k) (fun i => V (k + i)) := by
  refine ⟨⟨fun h0 => ?_, (fun h => by cases h), (fun a e => by cases e; rfl)⟩, ⟨fun h0 => ?_, (fun h => by cases h), (fun a e => by cases e; rfl)⟩⟩
  · obtain ⟨b, o, e, hlt, hat⟩ := h.spread (by omega)
    exact ⟨b, o, e, hlt, fun i hi => hat i (by omega)⟩
  · obtain ⟨b, o, e, hlt, hat⟩ := h.spread (by omega)
    cases e
    refine ⟨_, _, rfl, hlt, fun i hi => ?_⟩
    have := hat (k + i) (by omega)
    rwa [show 0 + (k + i) * 7 = k * 7 + i * 7 by omega] at this
/-- The row with one more term. -/
def ins (V : Nat → TR) (k : Nat) (r : TR) : Nat → TR := cat (cat (cat (fun _ => default) 0 V) k (fun _ => r)) (k + 1) (fun i => V (k + i))
set_option maxRecDepth 100000 in
theorem ins_lt {V : Nat → TR} {k : Nat} {r : TR} {i : Nat} (h : i < k) : ins V k r i = V i := by
  unfold ins cat
  rw [if_pos (by omega), if_pos h, if_neg (by omega), Nat.sub_zero]
set_option maxRecDepth 100000 in
theorem ins_at {V : Nat → TR} {k : Nat} {r : TR} : ins V k r k = r := by
  unfold ins cat
  rw [if_pos (by omega), if_neg (by omega)]
set_option maxRecDepth 100000 in
theorem ins_gt {V : Nat → TR} {k : Nat} {r : TR} {i : Nat} (h : k < i) : ins V k r i = V (i - 1) := by
  unfold ins
  rw [cat, if_neg (by omega), show k + (i - (k + 1)) = i - 1 by omega]
set_option maxRecDepth 100000 in
theorem RsI.put {w : World} {ts : List Tm} {B : Option Addr} {j d : Nat} {us : List Tm} {V : Nat → TR} {W : World} (h : RsI w ts B j d us V W) {t : Tm} {r : TR} (hT : TV w r t) (het : ts[j]? = some t) {k : Nat} (hp : PutAt t us k)
    {B' : Option Addr} {d' : Nat} {W' : World} (hb : Below W.heap.size W W') (hr : RowV W' W.heap.size B' (j + 1) d' (ins V k r)) : RsI w ts B' (j + 1) d' (us.take k ++ t :: us.drop k) (ins V k r) W' := by
  have hk : k ≤ us.length := hp.le
  have hl := h.len
  refine ⟨h.be.trans (hb.mono h.be.size), hr.mono h.be.size, fun i x e => ?_, ?_, hp.rise h.rise, ?_⟩
  · rcases Nat.lt_trichotomy i k with hi | hi | hi
    · rw [ins_lt hi]
      rw [List.getElem?_append_left (by rw [List.length_take]; omega), List.getElem?_take_of_lt hi] at e
      exact h.tv i x e
    · subst hi
      rw [ins_at]
      rw [List.getElem?_append_right (by rw [List.length_take]; omega), List.length_take, Nat.min_eq_left hk, Nat.sub_self] at e
      cases e
      exact hT
    · rw [ins_gt hi]
      rw [List.getElem?_append_right (by rw [List.length_take]; omega), List.length_take, Nat.min_eq_left hk, show i - k = (i - 1 - k) + 1 by omega, List.getElem?_cons_succ, List.getElem?_drop, show k + (i - 1 - k) = i - 1 by omega] at e
      exact h.tv _ x e
  · rw [List.length_append, List.length_cons, List.length_take, List.length_drop]
    omega
  · refine PutAt.perm.trans ?_
    rw [List.take_add_one, het]
    exact ((h.perm.cons t).trans (List.perm_append_singleton t _).symm)
set_option maxRecDepth 100000 in
/-- The row is made: first the part ahead, then the row of one. -/
theorem ins_one (w : World) (ts : List Tm) (B : Option Addr) (j d : Nat) (us : List Tm) (V : Nat → TR) (W : World) (h : RsI w ts B j d us V W) (t : Tm) (r : TR) (hT : TV w r t) (het : ts[j]? = some t) (k : Nat) (hp : PutAt t us k)
    (A1 A2 : Option Addr) (c1 c2 : Nat) (h1 : Part W A1 k V) (h2 : Part W A2 (j - k) (fun i => V (k + i))) (hj : j ≤ 1000) (ty : TypeId) :
    ∃ B1 d1 W1 B2 d2 W2 B3 d3 W3, (Builtin.append_ #[26, 26] ty #[.slice none 0 0, .slice A1 k c1]).run Try.prog W = .ok (.slice B1 k d1) W1 ∧
      (Builtin.append_ #[26, 26] ty #[.slice B1 k d1, .slice (some ⟨W1.heap.size, 0, none⟩) 1 1]).run Try.prog (W1.alloc (.cells #[.int .i64 r.k, .int .i64 r.n, .bool r.g, .slice r.A r.ln r.lc, .int .u64 r.u, .string r.s, .slice r.B r.m r.d] 28)) = .ok (.slice B2 (k + 1) d2) W2 ∧
      (Builtin.append_ #[26, 26] ty #[.slice B2 (k + 1) d2, .slice A2 (j - k) c2]).run Try.prog W2 = .ok (.slice B3 (j + 1) d3) W3 ∧
      RsI w ts B3 (j + 1) d3 (us.take k ++ t :: us.drop k) (ins V k r) W3 ∧ Below W.heap.size W W1 := by
  have hk : k ≤ us.length := hp.le
  have hl := h.len
  obtain ⟨B1, d1, W1, e1, r1, b1, _, _, _⟩ := app_rows W W.heap.size none 0 0 (fun _ => default) (RowV.nil _ _ _) A1 k c1 V h1.sp h1.nil h1.spot (by omega) (Nat.le_refl _) ty
  rw [Nat.zero_add] at e1 r1
  have bal := (Below.refl W1.heap.size W1).alloc (Nat.le_refl _) (.cells #[.int .i64 r.k, .int .i64 r.n, .bool r.g, .slice r.A r.ln r.lc, .int .u64 r.u, .string r.s, .slice r.B r.m r.d] 28)
  have r1' := r1.below bal
  have b1' := b1.trans (bal.mono b1.size)
  have o := Part.one W1 r
  obtain ⟨B2, d2, W2, e2, r2, b2, _, _, _⟩ := app_rows _ W.heap.size B1 k d1 _ r1' _ 1 1 _ o.sp o.nil o.spot (by omega) b1'.size ty
  have b2' := b1'.trans b2
  have h2' := h2.below b2'
  obtain ⟨B3, d3, W3, e3, r3, b3, _, _, _⟩ := app_rows _ W.heap.size B2 (k + 1) d2 _ r2 A2 (j - k) c2 _ h2'.sp h2'.nil h2'.spot (by omega) b2'.size ty
  rw [show k + 1 + (j - k) = j + 1 by omega] at e3 r3
  exact ⟨B1, d1, W1, B2, d2, W2, B3, d3, W3, e1, e2, e3, h.put hT het hp (b2'.trans b3) r3, b1⟩
set_option maxRecDepth 100000 in
/-- The row is made: first the row of one, then the part ahead. -/
theorem ins_two (w : World) (ts : List Tm) (B : Option Addr) (j d : Nat) (us : List Tm) (V : Nat → TR) (W : World) (h : RsI w ts B j d us V W) (t : Tm) (r : TR) (hT : TV w r t) (het : ts[j]? = some t) (k : Nat) (hp : PutAt t us k)
    (A1 A2 : Option Addr) (c1 c2 : Nat) (h1 : Part W A1 k V) (h2 : Part W A2 (j - k) (fun i => V (k + i))) (hj : j ≤ 1000) (ty : TypeId) :
    ∃ B1 d1 W1 B2 d2 W2 B3 d3 W3, (Builtin.append_ #[26, 26] ty #[.slice none 0 0, .slice A1 k c1]).run Try.prog (W.alloc (.cells #[.int .i64 r.k, .int .i64 r.n, .bool r.g, .slice r.A r.ln r.lc, .int .u64 r.u, .string r.s, .slice r.B r.m r.d] 28)) = .ok (.slice B1 k d1) W1 ∧
      (Builtin.append_ #[26, 26] ty #[.slice B1 k d1, .slice (some ⟨W.heap.size, 0, none⟩) 1 1]).run Try.prog W1 = .ok (.slice B2 (k + 1) d2) W2 ∧
      (Builtin.append_ #[26, 26] ty #[.slice B2 (k + 1) d2, .slice A2 (j - k) c2]).run Try.prog W2 = .ok (.slice B3 (j + 1) d3) W3 ∧
      RsI w ts B3 (j + 1) d3 (us.take k ++ t :: us.drop k) (ins V k r) W3 := by
  have hk : k ≤ us.length := hp.le
  have hl := h.len
  have bal := (Below.refl W.heap.size W).alloc (Nat.le_refl _) (.cells #[.int .i64 r.k, .int .i64 r.n, .bool r.g, .slice r.A r.ln r.lc, .int .u64 r.u, .string r.s, .slice r.B r.m r.d] 28)
  have o := Part.one W r
  have h1' := h1.below bal
  have hs : (W.alloc (.cells #[.int .i64 r.k, .int .i64 r.n, .bool r.g, .slice r.A r.ln r.lc, .int .u64 r.u, .string r.s, .slice r.B r.m r.d] 28)).heap.size = W.heap.size + 1 := by simp
  generalize W.alloc (.cells #[.int .i64 r.k, .int .i64 r.n, .bool r.g, .slice r.A r.ln r.lc, .int .u64 r.u, .string r.s, .slice r.B r.m r.d] 28) = X at *
  obtain ⟨B1, d1, W1, e1, r1, b1, _, _, _⟩ := app_rows X X.heap.size none 0 0 (fun _ => default) (RowV.nil _ _ _) A1 k c1 V h1'.sp h1'.nil h1'.spot (by omega) (Nat.le_refl _) ty
  rw [Nat.zero_add] at e1 r1
  have o' := o.below b1
  obtain ⟨B2, d2, W2, e2, r2, b2, _, _, _⟩ := app_rows _ X.heap.size B1 k d1 _ r1 _ 1 1 _ o'.sp o'.nil o'.spot (by omega) b1.size ty
  have b2' := b1.trans b2
  have h2' := (h2.below bal).below b2'
  obtain ⟨B3, d3, W3, e3, r3, b3, _, _, _⟩ := app_rows _ X.heap.size B2 (k + 1) d2 _ r2 A2 (j - k) c2 _ h2'.sp h2'.nil h2'.spot (by omega) b2'.size ty
  rw [show k + 1 + (j - k) = j + 1 by omega] at e3 r3
  exact ⟨B1, d1, W1, B2, d2, W2, B3, d3, W3, e1, e2, e3, h.put hT het hp (bal.trans ((b2'.trans b3).mono bal.size)) (r3.mono bal.size)⟩
end Go.Proofs.Ytmcfokeibecopaa
