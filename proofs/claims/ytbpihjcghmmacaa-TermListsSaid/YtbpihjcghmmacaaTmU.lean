/-
  PACKAGE fresh: terms that are copied apart (no map is kept).
-/
import Derived.Test.YtbpihjcghmmacaaTmT
namespace Go.Proofs.Ytbpihjcghmmacaa
open Go.RowKit

theorem make_terms (n : Nat) (hn : n ≤ 100000) (w : World) :
    (Instr.makeSlice 26 (.int .i64 (n : Int)) (.int .i64 (n : Int))).run Try.prog w = .ok (.slice (some ⟨w.heap.size, 0, none⟩) n n) (w.alloc (.cells (madeCells (Value.cells (.agg #[.int .i64 zeroR.k, .int .i64 zeroR.n, .bool zeroR.g, .slice zeroR.A zeroR.ln zeroR.lc, .int .u64 zeroR.u, .string zeroR.s, .slice zeroR.B zeroR.m zeroR.d])) (n * 7)) 28)) := by
  obtain ⟨i, hi, hz, hs, hb⟩ := info_term'
  have h := run_make (P := Try.prog) w 26 28 i _ und_terms hi hz .i64 .i64 n n (by omega) (by omega) (by rw [hb]; omega) (by omega)
  rw [hs] at h
  simp only [Int.toNat_natCast] at h
  exact h

/-- What stands while terms are copied one by one: the copier at p, the new row at g, so many elements of it done. -/
structure CpI (w : World) (ts : List Tm) (m g j : Nat) (W : World) : Prop where
  cop : W.heap[w.heap.size]? = some (.cells #[.map none] 75 (0, 0))
  be : Below w.heap.size w W
  pg : w.heap.size < g
  row : ∃ (cs : Array Value) (V : Nat → TR), W.heap[g]? = some (.cells cs 28 (0, 0)) ∧ cs.size = m * 7 ∧ (∀ i, i < j → ∀ k, k < 7 → cs[i * 7 + k]? = (V i).cells[k]?) ∧
    ∀ i t, i < j → ts[i]? = some t → TVS (fun b => w.heap.size < b ∧ b ≠ g) W (V i) t
theorem CpI.glt {w : World} {ts : List Tm} {m g j : Nat} {W : World} (h : CpI w ts m g j W) : g < W.heap.size := by
  obtain ⟨cs, V, h1, _⟩ := h.row
  exact (Array.getElem?_eq_some_iff.1 h1).1
theorem CpI.plt {w : World} {ts : List Tm} {m g j : Nat} {W : World} (h : CpI w ts m g j W) : w.heap.size < W.heap.size := (Array.getElem?_eq_some_iff.1 h.cop).1
theorem CpI.below {w : World} {ts : List Tm} {m g j : Nat} {W W' : World} (h : CpI w ts m g j W) (hb : Below W.heap.size W W') : CpI w ts m g j W' := by
  obtain ⟨cs, V, h1, h2, h3, h4⟩ := h.row
  exact ⟨(hb.block _ h.plt).trans h.cop, h.be.trans (hb.mono h.be.size), h.pg, cs, V, (hb.block _ h.glt).trans h1, h2, h3, fun i t hi e => (h4 i t hi e).keep (hb.keeps _)⟩
/-- A cell of the new row. -/
theorem CpI.cell {w : World} {ts : List Tm} {m g j : Nat} {W : World} (h : CpI w ts m g j W) {x : Nat} (hx : x < m * 7) : ∃ v, W.cell? ⟨g, x, none⟩ = some v := by
  obtain ⟨cs, V, h1, h2, _⟩ := h.row
  exact ⟨cs[x]'(by omega), by rw [cell_of_row W g x cs _ (0, 0) h1]; exact Array.getElem?_eq_getElem (by omega)⟩
theorem CpI.frozen {w : World} {ts : List Tm} {m g j : Nat} {W : World} (h : CpI w ts m g j W) (x : Nat) : W.frozen? ⟨g, x, none⟩ = false := by
  obtain ⟨cs, V, h1, _⟩ := h.row
  simp [World.frozen?, h1]
/-- A cell of the row that is not among those done is written. -/
theorem CpI.set {w : World} {ts : List Tm} {m g j : Nat} {W : World} (h : CpI w ts m g j W) {x : Nat} (hx : j * 7 ≤ x) (v : Value) : CpI w ts m g j (W.setCell ⟨g, x, none⟩ v) := by
  have hpg := h.pg
  obtain ⟨cs, V, h1, h2, h3, h4⟩ := h.row
  refine ⟨(Below.heap_setCell W ⟨g, x, none⟩ v w.heap.size (by simp only; omega)).trans h.cop, h.be.setCell (p := ⟨g, x, none⟩) (by simp only; omega) v, h.pg, cs.setIfInBounds x v, V, ?_, by simp [h2], fun i hi k hk => ?_, fun i t hi e => (h4 i t hi e).keep ((Keeps.refl _ _).setCell (by simp) v)⟩
  · simp [World.setCell, Array.getElem?_modify, h1]
  · rw [Array.getElem?_setIfInBounds_ne (by omega)]
    exact h3 i hi k hk
/-- One more is done. -/
theorem CpI.step {w : World} {ts : List Tm} {m g j : Nat} {W : World} (h : CpI w ts m g j W) {R : TR} {t : Tm} (ht : ts[j]? = some t) (hR : TVS (fun b => w.heap.size < b ∧ b ≠ g) W R t) (h7 : At7 W g (j * 7) R) : CpI w ts m g (j + 1) W := by
  obtain ⟨cs, V, h1, h2, h3, h4⟩ := h.row
  refine ⟨h.cop, h.be, h.pg, cs, fun i => if i < j then V i else R, h1, h2, fun i hi k hk => ?_, fun i x hi e => ?_⟩
  · by_cases hij : i < j
    · simp only [hij, if_true]; exact h3 i hij k hk
    · have : i = j := by omega
      subst this
      simp only [hij, if_false]
      have hc : ∀ k, W.cell? ⟨g, i * 7 + k, none⟩ = cs[i * 7 + k]? := fun k => cell_of_row W g _ cs _ (0, 0) h1
      rw [← hc]
      have hk' : k = 0 ∨ k = 1 ∨ k = 2 ∨ k = 3 ∨ k = 4 ∨ k = 5 ∨ k = 6 := by omega
      rcases hk' with rfl | rfl | rfl | rfl | rfl | rfl | rfl
      · exact h7.c0
      · exact h7.c1
      · exact h7.c2
      · exact h7.c3
      · exact h7.c4
      · exact h7.c5
      · exact h7.c6
  · by_cases hij : i < j
    · simp only [hij, if_true]; exact h4 i x hij e
    · have : i = j := by omega
      subst this
      simp only [hij, if_false]
      rw [ht] at e
      cases e
      exact hR
/-- All are done. -/
theorem CpI.all {w : World} {ts : List Tm} {m g : Nat} {W : World} (h : CpI w ts m g m W) (hl : ts.length = m) (hm : m ≤ 100000) : TVSs (fun b => w.heap.size ≤ b) W (some ⟨g, 0, none⟩) m m ts := by
  obtain ⟨cs, V, h1, h2, h3, h4⟩ := h.row
  have hpg := h.pg
  refine ⟨hl, Nat.le_refl _, by unfold maxLen; omega, fun _ a e => by cases e; simp only; omega, V, fun _ => ⟨g, 0, rfl, h.glt, fun i hi => At7.of fun k hk => ?_⟩, fun i t e => ?_⟩
  · rw [add_none, cell_of_row W g _ cs _ (0, 0) h1, Nat.zero_add]
    exact h3 i hi k hk
  · have hi : i < m := by rw [← hl]; exact (List.getElem?_eq_some_iff.1 e).1
    exact (h4 i t hi e).mono fun b hb => by omega

/-- A record is written into the row, from cell x on. -/
@[reducible] def put7o (w : World) (g x : Nat) (r : TR) : World :=
  ((((((w.setCell ⟨g, x, none⟩ (.int .i64 r.k)).setCell ⟨g, x + 1, none⟩ (.int .i64 r.n)).setCell ⟨g, x + 2, none⟩ (.bool r.g)).setCell ⟨g, x + 3, none⟩ (.slice r.A r.ln r.lc)).setCell ⟨g, x + 4, none⟩ (.int .u64 r.u)).setCell ⟨g, x + 5, none⟩ (.string r.s)).setCell ⟨g, x + 6, none⟩ (.slice r.B r.m r.d)
theorem setOth {w : World} {g x y : Nat} {u : Value} {X : Option Value} (h : w.cell? ⟨g, y, none⟩ = X) (hn : x ≠ y) : (w.setCell ⟨g, x, none⟩ u).cell? ⟨g, y, none⟩ = X := by
  exact (World.cell?_setCell_other w _ _ _ (fun e => by cases e; exact hn rfl)).trans h
theorem setAny {w : World} {g x y : Nat} {u : Value} (h : ∃ v, w.cell? ⟨g, y, none⟩ = some v) : ∃ v, (w.setCell ⟨g, x, none⟩ u).cell? ⟨g, y, none⟩ = some v := by
  obtain ⟨v, h⟩ := h
  exact cell?_setCell_some h
theorem setSame {w : World} {g x : Nat} {u : Value} (h : ∃ v, w.cell? ⟨g, x, none⟩ = some v) : (w.setCell ⟨g, x, none⟩ u).cell? ⟨g, x, none⟩ = some u := by
  obtain ⟨v, h⟩ := h
  exact World.cell?_setCell_same w _ _ h
theorem put7o_at {W : World} {g x : Nat} (r : TR) (h : ∀ k, k < 7 → ∃ v, W.cell? ⟨g, x + k, none⟩ = some v) : At7 (put7o W g x r) g x r where
  c0 := setOth (setOth (setOth (setOth (setOth (setOth (setSame (h 0 (by omega))) (by omega)) (by omega)) (by omega)) (by omega)) (by omega)) (by omega)
  c1 := setOth (setOth (setOth (setOth (setOth (setSame (setAny (h 1 (by omega)))) (by omega)) (by omega)) (by omega)) (by omega)) (by omega)
  c2 := setOth (setOth (setOth (setOth (setSame (setAny (setAny (h 2 (by omega))))) (by omega)) (by omega)) (by omega)) (by omega)
  c3 := setOth (setOth (setOth (setSame (setAny (setAny (setAny (h 3 (by omega)))))) (by omega)) (by omega)) (by omega)
  c4 := setOth (setOth (setSame (setAny (setAny (setAny (setAny (h 4 (by omega))))))) (by omega)) (by omega)
  c5 := setOth (setSame (setAny (setAny (setAny (setAny (setAny (h 5 (by omega)))))))) (by omega)
  c6 := setSame (setAny (setAny (setAny (setAny (setAny (setAny (h 6 (by omega))))))))
theorem CpI.put {w : World} {ts : List Tm} {m g j : Nat} {W : World} (h : CpI w ts m g j W) (r : TR) : CpI w ts m g j (put7o W g (j * 7) r) :=
  ((((((h.set (x := j * 7) (by omega) _).set (x := j * 7 + 1) (by omega) _).set (x := j * 7 + 2) (by omega) _).set (x := j * 7 + 3) (by omega) _).set (x := j * 7 + 4) (by omega) _).set (x := j * 7 + 5) (by omega) _).set (x := j * 7 + 6) (by omega) _
theorem At7.set3 {W : World} {g x : Nat} {r : TR} (h : At7 W g x r) (A : Option Addr) (n c : Nat) : At7 (W.setCell ⟨g, x + 3, none⟩ (.slice A n c)) g x ⟨r.k, r.n, r.g, A, n, c, r.u, r.s, r.B, r.m, r.d⟩ :=
  ⟨setOth h.c0 (by omega), setOth h.c1 (by omega), setOth h.c2 (by omega), setSame ⟨_, h.c3⟩, setOth h.c4 (by omega), setOth h.c5 (by omega), setOth h.c6 (by omega)⟩
theorem At7.set6 {W : World} {g x : Nat} {r : TR} (h : At7 W g x r) (B : Option Addr) (n c : Nat) : At7 (W.setCell ⟨g, x + 6, none⟩ (.slice B n c)) g x ⟨r.k, r.n, r.g, r.A, r.ln, r.lc, r.u, r.s, B, n, c⟩ :=
  ⟨setOth h.c0 (by omega), setOth h.c1 (by omega), setOth h.c2 (by omega), setOth h.c3 (by omega), setOth h.c4 (by omega), setOth h.c5 (by omega), setSame ⟨_, h.c6⟩⟩

theorem TVS.copied {S : Nat → Prop} {w W : World} {r : TR} {t : Tm} {A B : Option Addr} {n c m d : Nat} (h : TV w r t) (L : Lim W A n c t.mag) (hc : c ≤ maxLen) (hS : 0 < n → ∀ a, A = some a → S a.block) (hT : TVSs S W B m d t.args) :
    TVS S W ⟨r.k, r.n, r.g, A, n, c, r.u, r.s, B, m, d⟩ t := by
  obtain ⟨V, h1, h2⟩ := hT.el
  have F := h.flat
  have := TVS.mk (S := S) (w := W) ⟨r.k, r.n, r.g, A, n, c, r.u, r.s, B, m, d⟩ t.mag t.args V ⟨F.k0, F.k1, F.n0, F.n1, F.u0, F.u1, L, hc, F.str, hT.md, hT.dd⟩ hT.len h1 ⟨hS, fun h a e => hT.on h a e⟩ h2
  have et : Tm.mk r.k r.n r.g t.mag r.u r.s t.args = t := by
    have e1 := h.kind
    have e2 := h.num
    have e3 := h.neg
    have e4 := h.bits
    have e5 := h.bytes
    cases t
    simp only [Tm.kind, Tm.num, Tm.neg, Tm.bits, Tm.bytes] at e1 e2 e3 e4 e5
    subst e1 e2 e3 e4 e5
    rfl
  rw [← et]
  exact this

set_option maxRecDepth 100000 in
set_option maxHeartbeats 8000000 in
theorem terms_of (ts : List Tm) (ih : ∀ t ∈ ts, ∀ (w : World) (B : Option Addr) (m d : Nat), TVs w B m d t.args → Calls Try.prog 63 #[.agg #[.map none], .slice B m d] w (CpTs w t.args))
    (hok : ∀ t ∈ ts, t.Ok) (w : World) (B : Option Addr) (m d : Nat) (hts : TVs w B m d ts) (hm : m ≤ 100000) :
    Calls Try.prog 63 #[.agg #[.map none], .slice B m d] w (CpTs w ts) := by
  have IH := Lib.hid ih
  clear ih
  have hlen := hts.len
  by_cases h0 : m = 0
  · subst h0
    have e : ts = [] := List.eq_nil_of_length_eq_zero hlen
    subst e
    go_enter Try.func63, Try.ntmps63
    go_wp2
    go_ret
    exact ⟨none, 0, 0, rfl, TVSs.nil _ _ _ _ (Nat.zero_le _), (Below.refl _ _).alloc (Nat.le_refl _) _⟩
  · obtain ⟨b0, o0, hB⟩ : ∃ b0 o0, B = some ⟨b0, o0, none⟩ := by
      obtain ⟨V, h1, _⟩ := hts.el
      obtain ⟨b, o, e, _⟩ := h1 (by omega)
      exact ⟨b, o, e⟩
    subst hB
    have e0 : ((m : Int) == 0) = false := by rw [beq_eq_false_iff_ne]; omega
    have hpos : (0 : Int) < (m : Int) := by omega
    have hlk := look_none
    have hnq := neq_nilmade
    have hmk := make_terms m hm
    go_enter Try.func63, Try.ntmps63
    have hb0 : b0 < w.heap.size := by
      obtain ⟨V, h1, _⟩ := hts.el
      obtain ⟨b, o, e, hlt, _⟩ := h1 (by omega)
      cases e
      exact hlt
    have J0 : CpI w ts m (w.heap.size + 1 + 1) 0 (((w.alloc (.cells #[.map none] 75)).alloc (.cells #[.pointer (some ⟨b0, o0, none⟩), .int .i64 (m : Int)] 78)).alloc (.cells (madeCells (Value.cells (.agg #[.int .i64 zeroR.k, .int .i64 zeroR.n, .bool zeroR.g, .slice zeroR.A zeroR.ln zeroR.lc, .int .u64 zeroR.u, .string zeroR.s, .slice zeroR.B zeroR.m zeroR.d])) (m * 7)) 28)) := by
      refine ⟨?_, (((Below.refl _ _).alloc (Nat.le_refl _) _).alloc (by simp) _).alloc (by simp; omega) _, by omega, madeCells (Value.cells (.agg #[.int .i64 zeroR.k, .int .i64 zeroR.n, .bool zeroR.g, .slice zeroR.A zeroR.ln zeroR.lc, .int .u64 zeroR.u, .string zeroR.s, .slice zeroR.B zeroR.m zeroR.d])) (m * 7), fun _ => default, ?_, size_madeCells _ _, fun i hi => absurd hi (by omega), fun i t hi => absurd hi (by omega)⟩
      · rw [Below.heap_alloc _ _ _ (by simp; omega), Below.heap_alloc _ _ _ (by simp)]
        exact heap_alloc_new w _
      · have := heap_alloc_new ((w.alloc (.cells #[.map none] 75)).alloc (.cells #[.pointer (some ⟨b0, o0, none⟩), .int .i64 (m : Int)] 78)) (.cells (madeCells (Value.cells (.agg #[.int .i64 zeroR.k, .int .i64 zeroR.n, .bool zeroR.g, .slice zeroR.A zeroR.ln zeroR.lc, .int .u64 zeroR.u, .string zeroR.s, .slice zeroR.B zeroR.m zeroR.d])) (m * 7)) 28)
        simpa using this
    go_wp2_with fail
    obtain ⟨g, hg⟩ : ∃ g, g = w.heap.size + 1 + 1 := ⟨_, rfl⟩
    rw [← hg] at J0 ⊢
    clear hg hlk hnq hmk
    go_loopw [39] (fun i w' => ∃ j : Nat, j ≤ m ∧ i = .int .i64 (j : Int) ∧ CpI w ts m g j w') (fun i _ => m - (intOf i).toNat)
    case atStart => exact ⟨0, Nat.zero_le _, rfl, J0⟩
    case round =>
      clear J0
      obtain ⟨j, hj, rfl, J⟩ := hrel
      by_cases hjm : j < m
      · have hd1 : decide ((j : Int) < (m : Int)) = true := by rw [decide_eq_true_iff]; omega
        obtain ⟨b', o', r', t', e, hlt, h7w, het, htvw⟩ := hts.get j hjm
        cases e
        have h7 := h7w.below J.be hlt
        have hpg := J.pg
        have hne : b0 ≠ g := by omega
        have hmem := List.mem_of_getElem? het
        have y0 := h7.c0; have y1 := h7.c1; have y2 := h7.c2; have y3 := h7.c3; have y4 := h7.c4; have y5 := h7.c5; have y6 := h7.c6
        obtain ⟨v0, q0⟩ := J.cell (x := j * 7) (by omega)
        obtain ⟨v1, q1⟩ := J.cell (x := j * 7 + 1) (by omega)
        obtain ⟨v2, q2⟩ := J.cell (x := j * 7 + 2) (by omega)
        obtain ⟨v3, q3⟩ := J.cell (x := j * 7 + 3) (by omega)
        obtain ⟨v4, q4⟩ := J.cell (x := j * 7 + 4) (by omega)
        obtain ⟨v5, q5⟩ := J.cell (x := j * 7 + 5) (by omega)
        obtain ⟨v6, q6⟩ := J.cell (x := j * 7 + 6) (by omega)
        have f0 := J.frozen (j * 7)
        have f1 := J.frozen (j * 7 + 1)
        have f2 := J.frozen (j * 7 + 2)
        have f3 := J.frozen (j * 7 + 3)
        have f4 := J.frozen (j * 7 + 4)
        have f5 := J.frozen (j * 7 + 5)
        have f6 := J.frozen (j * 7 + 6)
        have HJ := Lib.hid J
        clear J
        go_upto_region 14 with fail
        have J1 := HJ.out.put r'
        have G1 := put7o_at r' (fun k hk => HJ.out.cell (x := j * 7 + k) (by omega))
        change Code.wp _ _ _ _ (put7o wr g (j * 7) r')
        clear v0 v1 v2 v3 v4 v5 v6 q0 q1 q2 q3 q4 q5 q6 f0 f1 f2 f3 f4 f5 f6 y0 y1 y2 y3 y4 y5 y6 h7 HJ
        generalize put7o wr g (j * 7) r' = W1 at *
        have hln := Ok.limbs htvw (hok t' hmem)
        have tv1 := htvw.bel J1.be
        have h7 := h7w.below J1.be hlt
        obtain ⟨A', c', W2, hrun, hO, hB⟩ := append_lim W1 W1.heap.size none 0 0 [] (Own.nil _ _) r'.A r'.ln r'.lc t'.mag tv1.flat.lim (by omega) (Nat.le_refl _) 22
        rw [Nat.zero_add, List.nil_append] at hO
        rw [Nat.zero_add] at hrun
        have HR := Lib.hid hrun
        clear hrun
        have J2 := J1.below hB
        have G2 := G1.below hB J1.glt
        have y3 := h7.c3
        have q3 := G2.c3
        have f3 := J2.frozen (j * 7 + 3)
        have hgl := J1.glt
        have HJ := Lib.hid J2
        have HG := Lib.hid G2
        clear J1 G1 J2 G2
        go_upto_region 15 with (at_builtin; refine wpList_append_run rfl _ _ _ rfl _ _ _ rfl rfl HR.out ?_)
        change Code.wp _ _ _ _ (W2.setCell ⟨g, j * 7 + 3, none⟩ (.slice A' r'.ln c'))
        have J3 := HJ.out.set (x := j * 7 + 3) (by omega) (.slice A' r'.ln c')
        have G3 := HG.out.set3 A' r'.ln c'
        have hbk : 0 < r'.ln → ∀ a, A' = some a → w.heap.size < a.block ∧ a.block ≠ g := fun _ a e => by
          subst e
          have := (World.ownsRow.lt hO.2.2 a.block rfl).1
          exact ⟨by omega, by omega⟩
        have L3 := hO.lim.keep (S := fun b => w.heap.size < b ∧ b ≠ g) (w' := W2.setCell ⟨g, j * 7 + 3, none⟩ (.slice A' r'.ln c')) hbk ((Keeps.refl _ _).setCell (by simp) _)
        have hcap := hO.cap.2
        have hsz3 : (W2.setCell ⟨g, j * 7 + 3, none⟩ (.slice A' r'.ln c')).heap.size = W2.heap.size := by simp [World.setCell]
        have hB2 := hB.size
        have F := htvw.flat
        clear HJ HG y3 q3 f3 hO HR h7 tv1 hB
        generalize W2.setCell ⟨g, j * 7 + 3, none⟩ (.slice A' r'.ln c') = W3 at *
        have hdr := (Below.refl W3.heap.size W3).drew
        have J3d := J3.below hdr
        have G3d := G3.below hdr J3.glt
        have L3d := L3.below hdr
        have tvd := htvw.bel J3d.be
        have h7d := h7w.below J3d.be hlt
        have p0 : W3.drew.cell? ⟨w.heap.size, 0, none⟩ = some (.map none) := by rw [cell_of_row _ _ 0 _ _ (0, 0) J3d.cop]; rfl
        have y6 := h7d.c6
        have HJ := Lib.hid J3d
        have HG := Lib.hid G3d
        have HL := Lib.hid L3d
        have HT := Lib.hid tvd
        have IA := Lib.hid (IH.out t' hmem)
        have hglt : g < W3.drew.heap.size := J3d.glt
        clear J3 J3d G3 G3d L3 L3d tvd h7d hdr
        go_region_with (first
          | (go_at_call 63; refine (IA.out W3.drew r'.B r'.m r'.d (by exact HT.out.args)).mono ?_; rintro e v ⟨B', m', d', rfl, hT, hv⟩; have J4 := Lib.hid (HJ.out.below hv); have G4 := Lib.hid (HG.out.below hv hglt); have L4 := Lib.hid (HL.out.below hv); have q6 := G4.out.c6; have f6 := J4.out.frozen (j * 7 + 6); clear p0 y6))
        all_goals
          go_wp2_with fail
          have hT' := hT.mono (S' := fun b => w.heap.size < b ∧ b ≠ g) (fun b h => ⟨by omega, by omega⟩)
          have kp := (Keeps.refl (fun b => w.heap.size < b ∧ b ≠ g) v).setCell (p := ⟨g, j * 7 + 6, none⟩) (by simp) (.slice B' m' d')
          have T5 := TVS.copied htvw (L4.out.keep hbk kp) hcap hbk (hT'.keep kp)
          have J5 := (J4.out.set (x := j * 7 + 6) (by omega) (.slice B' m' d')).step het T5 (G4.out.set6 B' m' d')
          exact ⟨⟨j + 1, by omega, by go_num, J5⟩, by simp [intOf]; omega⟩
      · have hd1 : decide ((j : Int) < (m : Int)) = false := by rw [decide_eq_false_iff_not]; omega
        have e : j = m := by omega
        subst e
        go_wp2
        go_ret
        exact ⟨_, _, _, rfl, J.all hlen hm, J.be⟩

theorem terms_args (t : Tm) : t.Ok → t.size ≤ 100000 → ∀ (w : World) (B : Option Addr) (m d : Nat), TVs w B m d t.args → Calls Try.prog 63 #[.agg #[.map none], .slice B m d] w (CpTs w t.args) := by
  induction t using Tm.ind with
  | h k n g l u s ks ih =>
    intro hok hsz w B m d hts
    have hks : (Tm.mk k n g l u s ks).args = ks := rfl
    have hl := Tm.size_args (Tm.mk k n g l u s ks)
    rw [← hks] at ih
    generalize Tm.mk k n g l u s ks = t at *
    exact terms_of t.args (fun x hx => ih x hx (Ok.kids hok hx) (Nat.le_trans (Tm.size_kid hx) hsz)) (fun x hx => Ok.kids hok hx) w B m d hts (by rw [← hts.len]; omega)

set_option maxHeartbeats 2000000 in
/-- fresh.Terms, of terms that are not too many. -/
theorem freshTerms_any (w : World) (B : Option Addr) (m d : Nat) (ts : List Tm) (hts : TVs w B m d ts) (hok : ∀ t ∈ ts, t.Ok) (hsz : Tm.size.sizes ts ≤ 1000) :
    Calls Try.prog 48 #[.slice B m d] w (CpTs w ts) := by
  have hb0 := (Below.refl w.heap.size w).alloc (Nat.le_refl _) (.cells #[.map none] 75)
  have hl := Tm.sizes_len ts
  have hm : m ≤ 1000 := by rw [← hts.len]; omega
  have hx : (w.alloc (.cells #[.map none] 75)).cell? ⟨w.heap.size, 0, none⟩ = some (.map none) := by rw [World.cell?_alloc_at _ _ _ _ rfl]; rfl
  have hplt : w.heap.size < (w.alloc (.cells #[.map none] 75)).heap.size := by simp
  go_enter Try.func48, Try.ntmps48
  go_wp2_with fail
  have hts0 := hts.below hb0
  generalize w.alloc (.cells #[.map none] 75) = W at *
  refine (left_any W B m d ts hts0 262144 (by omega) (by omega)).mono ?_
  rintro e w1 ⟨rfl, hb1⟩
  have hx1 := (hb1.cell (p := ⟨w.heap.size, 0, none⟩) hplt).trans hx
  have b1 := hb0.trans (hb1.mono hb0.size)
  have e0 : ((262144 - (Tm.size.sizes ts : Int)) == 0) = false := by rw [beq_eq_false_iff_ne]; omega
  generalize (262144 - (Tm.size.sizes ts : Int)) = q at e0 ⊢
  have hts1 := hts0.below hb1
  clear hx hts0 hts
  go_wp2_with fail
  have hsz' : (Tm.mk 0 0 false [] 0 ⟨#[]⟩ ts).size ≤ 100000 := by rw [Tm.size]; omega
  have hok' : (Tm.mk 0 0 false [] 0 ⟨#[]⟩ ts).Ok := Tm.ok_mk.2 ⟨by simp, by simp [ByteArray.size], hok⟩
  refine (terms_args (Tm.mk 0 0 false [] 0 ⟨#[]⟩ ts) hok' hsz' w1 B m d hts1).mono ?_
  rintro e w2 ⟨B', m', d', rfl, hT, hb2⟩
  go_wp2
  go_ret
  exact ⟨B', m', d', rfl, hT.mono (fun b h => Nat.le_trans b1.size h), b1.trans (hb2.mono b1.size)⟩
end Go.Proofs.Ytbpihjcghmmacaa
