/-
  THE DUMP OF LookMoves that is made: its words and roots are laid one by one; what is asked of it.
  A CALL of a Go function that turns nothing, as one step of a region that draws.
  SEVEN CELLS that are written, one after another.
-/
import Derived.Test.YtejmmjedognaaaaGreatMv41
import Derived.Test.YtejmmjedognaaaaGreatMv36
import Derived.Test.YtejmmjedognaaaaGreatMv40
import Derived.Test.YtejmmjedognaaaaGreatMv34
import Derived.Test.YtejmmjedognaaaaGreatMv8
namespace Go.Proofs.YtejmmjedognaaaaGreat
open Go.RowKit Go.Shelf
open St

set_option maxRecDepth 100000 in
/-- One more word is laid into a row of a variable's own: what the append and the store leave. -/
theorem m_push {W : World} {E S i n c : Nat} {A : Option Addr} {zs : List Int} {y : Int} {cs : Array Value} {t : TypeId} (hE : W.heap[E]? = some (.cells cs t (0, 0))) (hi : cs[i]? = some (.slice A n c))
    (ho : W.ownsRow S 30 1 (.slice A n c) n (u64s zs)) (hES : E < S) (hS : S ≤ W.heap.size) (hn : n ≤ 1000) (hy : Wd y) :
    ∃ A' c' W2, (Builtin.append_ #[22, 22] 22 #[.slice A n c, .slice (some ⟨W.heap.size, 0, none⟩) 1 1]).run Tryz.prog (W.alloc (.cells #[.int .u64 y] 30)) = .ok (.slice A' (n + 1) c') W2 ∧
      W2.cell? ⟨E, i, none⟩ = some (.slice A n c) ∧ W2.frozen? ⟨E, i, none⟩ = false ∧
      (W2.setCell ⟨E, i, none⟩ (.slice A' (n + 1) c')).heap[E]? = some (.cells (cs.setIfInBounds i (.slice A' (n + 1) c')) t (0, 0)) ∧
      (W2.setCell ⟨E, i, none⟩ (.slice A' (n + 1) c')).ownsRow S 30 1 (.slice A' (n + 1) c') (n + 1) (u64s (zs ++ [y])) ∧
      Chg (fun k => k = E ∨ S ≤ k) W W2 ∧ Chg (fun k => k = E ∨ S ≤ k) W (W2.setCell ⟨E, i, none⟩ (.slice A' (n + 1) c')) := by
  have b1 := (Below.refl W.heap.size W).alloc (Nat.le_refl _) (.cells #[.int .u64 y] 30)
  have o1 := own_below ho b1
  have hz : Zs .u64 (W.alloc (.cells #[.int .u64 y] 30)) (some ⟨W.heap.size, 0, none⟩) 1 1 [y] := zs_row (n := 1) (heap_alloc_new W _) (fun j hj => match j, hj with | 0, _ => rfl) rfl (by decide) (fun x hx => by rw [List.mem_singleton.1 hx]; exact wf_u64' hy)
  obtain ⟨A', c', W2, hrun, hr, hg⟩ := u64_app o1 hz (Nat.le_trans hS b1.size) (by omega) 22
  have hlt : E < W.heap.size := (Array.getElem?_eq_some_iff.1 hE).1
  have hown : ∀ k, (Value.slice A n c).ownBlock = some k → S ≤ k := fun k e => (World.ownsRow.lt ho k e).1
  have hD : W2.heap[E]? = some (.cells cs t (0, 0)) := (hg.block E (Nat.lt_of_lt_of_le hlt b1.size) (fun e => by have := hown E e.symm; omega)).trans ((b1.block E hlt).trans hE)
  have c1 : Chg (fun k => k = E ∨ S ≤ k) W W2 := (Chg.below b1).trans (Chg.grown hg (K := fun k => k = E ∨ S ≤ k) (fun k e => .inr (hown k e))) (fun k _ hk => hk)
  refine ⟨A', c', W2, hrun, (cell_of_row W2 E i _ _ (0, 0) hD).trans hi, frozen_of_row W2 E i _ _ hD, heap_setCell_same W2 E i _ _ _ hD, ?_, c1, c1.setCell (p := ⟨E, i, none⟩) (.inl (.inl rfl)) _⟩
  have hc : Chg (fun k => k = E) W2 (W2.setCell ⟨E, i, none⟩ (.slice A' (n + 1) c')) := (Chg.refl (fun k => k = E) W2).setCell (p := ⟨E, i, none⟩) (.inl rfl) _
  exact own_kpk (K := fun k _ => k = E) hr (Kpk.chg hc (fun k o _ e => e)) (fun g cs hg' e => by omega)

set_option maxRecDepth 100000 in
/-- Numbers that lie in blocks that did not turn. -/
theorem zs_turn {q : IntKind} {w w' : World} {A : Option Addr} {n c : Nat} {zs : List Int} {K : Nat → Prop} (h : Zs q w A n c zs) (hc : Chg K w w') (hk : ∀ b o, A = some ⟨b, o, none⟩ → 0 < n → ¬ K b) : Zs q w' A n c zs := by
  refine ⟨h.len, h.nc, h.cm, h.wf, fun hn => ?_⟩
  obtain ⟨b, o, e, hlt, hcl⟩ := h.el hn
  refine ⟨b, o, e, Nat.lt_of_lt_of_le hlt hc.size, fun j hj => ?_⟩
  rw [← hcl j hj]
  have := hc.block b hlt (hk b o e hn)
  unfold World.cell?
  rw [this]
set_option maxRecDepth 100000 in
/-- A row of one's own lies behind its bound. -/
theorem own_lt {w : World} {S : Nat} {t : TypeId} {k : Nat} {b o : Nat} {n m c : Nat} {xs : List Value} (h : w.ownsRow S t k (.slice (some ⟨b, o, none⟩) m c) n xs) : S ≤ b ∧ b < w.heap.size := World.ownsRow.lt h b rfl

/-- A variable's row of its own, in its field k: the words so far. -/
def M1 (wa : World) (E S k : Nat) (cs : Array Value) (zs : List Int) (W : World) : Prop :=
  ∃ A c, W.heap[E]? = some (.cells (cs.setIfInBounds k (.slice A zs.length c)) 28 (0, 0)) ∧ W.ownsRow S 30 1 (.slice A zs.length c) zs.length (u64s zs) ∧ Below wa.heap.size wa W ∧ S ≤ W.heap.size
set_option maxRecDepth 100000 in
theorem m_step {wa W : World} {E S k n : Nat} {cs : Array Value} {zs : List Int} (h : M1 wa E S k cs zs W) (hk : k < cs.size) (hE : wa.heap.size ≤ E) (hES : E < S) (hn : zs.length = n) (hn2 : n ≤ 1000) {y : Int} (hy : Wd y) :
    ∃ A c A' c' W2, W.cell? ⟨E, k, none⟩ = some (.slice A n c) ∧ (Builtin.append_ #[22, 22] 22 #[.slice A n c, .slice (some ⟨W.heap.size, 0, none⟩) 1 1]).run Tryz.prog (W.alloc (.cells #[.int .u64 y] 30)) = .ok (.slice A' (n + 1) c') W2 ∧
      W2.cell? ⟨E, k, none⟩ = some (.slice A n c) ∧ W2.frozen? ⟨E, k, none⟩ = false ∧
      M1 wa E S k cs (zs ++ [y]) (W2.setCell ⟨E, k, none⟩ (.slice A' (n + 1) c')) ∧ Below wa.heap.size wa W2 ∧ Chg (fun k => k = E ∨ S ≤ k) W (W2.setCell ⟨E, k, none⟩ (.slice A' (n + 1) c')) := by
  obtain ⟨A, c, hb, ho, hbe, hS⟩ := h
  subst hn
  have hk2 : (cs.setIfInBounds k (.slice A zs.length c))[k]? = some (.slice A zs.length c) := by simp [hk]
  obtain ⟨A', c', W2, h1, h2, h3, h4, h5, h7, h6⟩ := m_push hb hk2 ho hES hS hn2 hy
  refine ⟨A, c, A', c', W2, (cell_of_row W E k _ _ (0, 0) hb).trans hk2, h1, h2, h3, ⟨A', c', ?_, ?_, ?_, ?_⟩, hbe.trans (h7.toBelow (fun k hk => by rcases hk with rfl | hk <;> omega) hbe.size), h6⟩
  · rw [h4, Array.setIfInBounds_setIfInBounds, List.length_append]; rfl
  · rw [List.length_append]; exact h5
  · exact hbe.trans (h6.toBelow (fun k hk => by rcases hk with rfl | hk <;> omega) hbe.size)
  · exact Nat.le_trans hS h6.size
set_option maxRecDepth 100000 in
theorem M1.be {wa W : World} {E S k : Nat} {cs : Array Value} {zs : List Int} (h : M1 wa E S k cs zs W) : Below wa.heap.size wa W := by
  obtain ⟨A, c, _, _, h, _⟩ := h
  exact h
set_option maxRecDepth 100000 in
theorem M1.drew {wa W : World} {E S k : Nat} {cs : Array Value} {zs : List Int} (h : M1 wa E S k cs zs W) : M1 wa E S k cs zs W.drew := by
  obtain ⟨A, c, hb, ho, hbe, hS⟩ := h
  have hb' : Below W.heap.size W W.drew := (Below.refl _ W).drew
  exact ⟨A, c, hb, own_below ho hb', hbe.trans (hb'.mono hbe.size), hS⟩
set_option maxRecDepth 100000 in
theorem M1.drewN {wa W : World} {E S k : Nat} {cs : Array Value} {zs : List Int} (h : M1 wa E S k cs zs W) (q : Nat) : M1 wa E S k cs zs (W.drewN q) := by
  obtain ⟨A, c, hb, ho, hbe, hS⟩ := h
  have hb' := bel_drewN W q
  exact ⟨A, c, hb, own_below ho hb', hbe.trans (hb'.mono hbe.size), hS⟩
set_option maxRecDepth 100000 in
/-- What the copy's variable is when its rows are struck. -/
theorem m_start {w : World} {D : Nat} {c0 c1 c2 c3 c4 c5 c6 c7 c8 : Value} {t : TypeId} (h : w.heap[D]? = some (.cells #[c0, c1, c2, c3, c4, c5, c6, c7, c8] t (0, 0))) (v0 v1 v7 : Value) :
    (((w.setCell ⟨D, 0, none⟩ v0).setCell ⟨D, 1, none⟩ v1).setCell ⟨D, 7, none⟩ v7).heap[D]? = some (.cells #[v0, v1, c2, c3, c4, c5, c6, v7, c8] t (0, 0)) := by
  have h0 : (w.setCell ⟨D, 0, none⟩ v0).heap[D]? = some (.cells #[v0, c1, c2, c3, c4, c5, c6, c7, c8] t (0, 0)) := by rw [heap_setCell_same w D 0 _ _ _ h]; simp
  have h1 : ((w.setCell ⟨D, 0, none⟩ v0).setCell ⟨D, 1, none⟩ v1).heap[D]? = some (.cells #[v0, v1, c2, c3, c4, c5, c6, c7, c8] t (0, 0)) := by rw [heap_setCell_same _ D 1 _ _ _ h0]; simp
  rw [heap_setCell_same _ D 7 _ _ _ h1]; simp
set_option maxRecDepth 100000 in
theorem set3b {B : Nat} {a w : World} (h : Below B a w) {D : Nat} (hD : B ≤ D) (v0 v1 v7 : Value) : Below B a (((w.setCell ⟨D, 0, none⟩ v0).setCell ⟨D, 1, none⟩ v1).setCell ⟨D, 7, none⟩ v7) :=
  ((h.setCell (p := ⟨D, 0, none⟩) hD v0).setCell (p := ⟨D, 1, none⟩) hD v1).setCell (p := ⟨D, 7, none⟩) hD v7
/-- A dump with words in its young region and roots alone. -/
def mD (a oa ds dm : Int) (ws rts : List Int) : Dmp := ⟨⟨a, ws⟩, ⟨oa, []⟩, ds, dm, [], rts, []⟩
/-- It in memory. -/
def mR (a : Int) (A : Option Addr) (n c : Nat) (oa : Int) (oA : Option Addr) (oc : Nat) (ds dm : Int) (F : Option Addr) (fc : Nat) (R : Option Addr) (rm rc : Nat) (H : Option Addr) (hc : Nat) : DR := ⟨⟨a, A, n, c⟩, ⟨oa, oA, 0, oc⟩, ds, dm, F, 0, fc, R, rm, rc, H, 0, hc, []⟩
set_option maxRecDepth 100000 in
theorem zs_zero (q : IntKind) (w : World) (A : Option Addr) {c : Nat} (h : c ≤ maxLen) : Zs q w A 0 c [] := ⟨rfl, Nat.zero_le _, h, (fun z h => by cases h), fun h => by omega⟩
set_option maxRecDepth 100000 in
/-- A dump that has no more than this is of this form. -/
theorem m_form {w : World} {ya : Int} {yA : Option Addr} {yn yc : Nat} {oa : Int} {oA : Option Addr} {oc : Nat} {ds dm : Int} {F : Option Addr} {fc : Nat} {R : Option Addr} {rm rc : Nat} {H : Option Addr} {hc : Nat} {rs : List FR} {d : Dmp}
    (h : DV w ⟨⟨ya, yA, yn, yc⟩, ⟨oa, oA, 0, oc⟩, ds, dm, F, 0, fc, R, rm, rc, H, 0, hc, rs⟩ d) :
    ∃ ws rts, d = mD ya oa ds dm ws rts ∧ DV w (mR ya yA yn yc oa oA oc ds dm F fc R rm rc H hc) (mD ya oa ds dm ws rts) ∧ oc ≤ maxLen ∧ fc ≤ maxLen ∧ hc ≤ maxLen ∧ (Lit.int .i64 ya).wf = true ∧ (Lit.int .i64 oa).wf = true ∧ (Lit.int .i64 ds).wf = true ∧ (Lit.int .i64 dm).wf = true ∧ ws.length = yn ∧ rts.length = rm ∧ (∀ x ∈ ws, Wd x) ∧ ∀ x ∈ rts, Wd x := by
  obtain ⟨⟨dya, ws⟩, ⟨doa, ows⟩, dds, ddm, dfs, rts, dhs⟩ := d
  have e1 : ya = dya := h.y.at_
  have e2 : oa = doa := h.o.at_
  have e3 : ds = dds := h.size
  have e4 : dm = ddm := h.mark
  subst e1 e2 e3 e4
  have l1 : ows = [] := List.eq_nil_of_length_eq_zero h.o.ws.len
  have l2 : dfs = [] := List.eq_nil_of_length_eq_zero h.fs.lef
  have l3 : dhs = [] := List.eq_nil_of_length_eq_zero h.hs.len
  have l4 : rs = [] := List.eq_nil_of_length_eq_zero h.fs.len
  subst l1 l2 l3 l4
  exact ⟨ws, rts, rfl, h, h.o.ws.cm, h.fs.cm, h.hs.cm, h.y.wf, h.o.wf, h.wfs, h.wfm, h.y.ws.len, h.roots.len, fun x hx => wf_u (h.y.ws.wf x hx), fun x hx => wf_u (h.roots.wf x hx)⟩
set_option maxRecDepth 100000 in
theorem mR_dv {w : World} {a oa ds dm : Int} {A oA F R H : Option Addr} {n c oc fc rm rc hc : Nat} {ws rts : List Int} (hw : Zs .u64 w A n c ws) (hr : Zs .u64 w R rm rc rts) (ho : oc ≤ maxLen) (hf : fc ≤ maxLen) (hh : hc ≤ maxLen)
    (wa : (Lit.int .i64 a).wf = true) (wo : (Lit.int .i64 oa).wf = true) (wd : (Lit.int .i64 ds).wf = true) (wm : (Lit.int .i64 dm).wf = true) : DV w (mR a A n c oa oA oc ds dm F fc R rm rc H hc) (mD a oa ds dm ws rts) :=
  ⟨⟨rfl, wa, hw⟩, ⟨rfl, wo, zs_zero _ _ _ ho⟩, rfl, rfl, wd, wm, ⟨rfl, rfl, Nat.zero_le _, hf, fun h => absurd h (Nat.lt_irrefl 0), fun i hi => absurd hi (by show ¬ i < 0; omega)⟩, hr, zs_zero _ _ _ hh⟩
section
variable {w : World} {a oa ds dm : Int} {A oA F R H : Option Addr} {n c oc fc rm rc hc : Nat} {ws rts : List Int} (h : DV w (mR a A n c oa oA oc ds dm F fc R rm rc H hc) (mD a oa ds dm ws rts)) (hn : n ≤ 60) (hm : rm ≤ 100)
set_option maxRecDepth 100000 in
theorem m_all (hn : ws.length ≤ 60) : ∀ f ∈ (mD a oa ds dm ws rts).y :: (mD a oa ds dm ws rts).o :: (mD a oa ds dm ws rts).fs, f.ws.length ≤ 1000 := by
  intro f hf
  rcases List.mem_cons.1 hf with rfl | hf
  · show ws.length ≤ 1000; omega
  · rcases List.mem_cons.1 hf with rfl | hf
    · exact Nat.zero_le _
    · cases hf
include h hn hm
set_option maxRecDepth 100000 in
theorem mc_why : Calls Tryz.prog 12 #[.agg #[.int .i64 a, .slice A n c, .int .i64 oa, .slice oA 0 oc, .int .i64 ds, .int .i64 dm, .slice F 0 fc, .slice R rm rc, .slice H 0 hc], .slice none 0 0] w fun e w2 => e = .returned (.string (whyO (mgs a oa ws) [] (mD a oa ds dm ws rts))) ∧ Below w.heap.size w w2 := by
  have hl : ws.length ≤ 60 := by have := h.y.ws.len; simp only [mD, mR] at this; omega
  exact why_any h (Nat.zero_le _) (m_all hl) (by show rm ≤ _; omega) (Nat.zero_le _) (sls_nil w) (by decide)
set_option maxRecDepth 100000 in
theorem mc_live (hse : Sepa (mgs a oa ws)) : Calls Tryz.prog 19 #[.agg #[.int .i64 a, .slice A n c, .int .i64 oa, .slice oA 0 oc, .int .i64 ds, .int .i64 dm, .slice F 0 fc, .slice R rm rc, .slice H 0 hc]] w fun e w2 => (∃ l, Rchd (mgs a oa ws) rts l ∧ e = .returned (.int .i64 (szO l))) ∧ Below w.heap.size w w2 := by
  have hl : ws.length ≤ 60 := by have := h.y.ws.len; simp only [mD, mR] at this; omega
  refine (live_any h (Nat.zero_le _) (m_all hl) (by show rm ≤ _; omega)).mono ?_
  rintro e w2 ⟨gs', l, hg, hR, rfl, hb⟩
  rcases hg with ⟨_, rfl⟩ | ⟨hn, _⟩
  · exact ⟨⟨l, hR, rfl⟩, hb⟩
  · exact absurd hse hn
omit hm in
set_option maxRecDepth 100000 in
theorem mc_read {x : Int} (hx : Wd x) {t : Tm} (ht : Rd (mgs a oa ws) [] x t) (hw : t.wt ≤ 300) : Calls Tryz.prog 10 #[.agg #[.int .i64 a, .slice A n c, .int .i64 oa, .slice oA 0 oc, .int .i64 ds, .int .i64 dm, .slice F 0 fc, .slice R rm rc, .slice H 0 hc], .slice none 0 0, .int .u64 x] w fun e w2 =>
    (∃ tk tn tg tA tln tlc tu ts tB tm tdd, e = .returned (.tuple #[.agg #[.int .i64 tk, .int .i64 tn, .bool tg, .slice tA tln tlc, .int .u64 tu, .string ts, .slice tB tm tdd], .bool true]) ∧ TVS (fun b => w.heap.size ≤ b) w2 ⟨tk, tn, tg, tA, tln, tlc, tu, ts, tB, tm, tdd⟩ t) ∧ Below w.heap.size w w2 := by
  have hl : ws.length ≤ 60 := by have := h.y.ws.len; simp only [mD, mR] at this; omega
  refine (read_any h (Nat.zero_le _) (m_all hl) (sls_nil w) (by decide) x hx).mono ?_
  rintro e w2 ⟨⟨t', R, ht', _, rfl, tv, _⟩ | ⟨hno, _⟩, hb⟩
  · have e : t' = t := ht'.det ht
    subst e
    exact ⟨⟨R.k, R.n, R.g, R.A, R.ln, R.lc, R.u, R.s, R.B, R.m, R.d, rfl, tv⟩, hb⟩
  · have := hno _ ht
    omega
end
set_option maxRecDepth 100000 in
/-- A copy of it: the nine fields, three of them empty rows. -/
theorem mc_copy {w : World} {a oa ds dm : Int} {A oA F R H : Option Addr} {n c oc fc rm rc hc : Nat} {ws rts : List Int} (h : DV w (mR a A n c oa oA oc ds dm F fc R rm rc H hc) (mD a oa ds dm ws rts)) (hn : n ≤ 60) (hm : rm ≤ 100) :
    Calls Tryz.prog 9 #[.agg #[.int .i64 a, .slice A n c, .int .i64 oa, .slice oA 0 oc, .int .i64 ds, .int .i64 dm, .slice F 0 fc, .slice R rm rc, .slice H 0 hc]] w fun e w2 =>
      (∃ eA en ec fA oc' F' fc' R' rm' rc' H' hc', e = .returned (.agg #[.int .i64 a, .slice eA en ec, .int .i64 oa, .slice fA 0 oc', .int .i64 ds, .int .i64 dm, .slice F' 0 fc', .slice R' rm' rc', .slice H' 0 hc']) ∧ oc' ≤ maxLen ∧ fc' ≤ maxLen ∧ hc' ≤ maxLen) ∧ Below w.heap.size w w2 := by
  refine (copyDump_any h ⟨hn, Nat.zero_le _, Nat.zero_le _, hm, Nat.zero_le _, fun i hi => absurd hi (by show ¬ i < 0; omega)⟩).mono ?_
  rintro e w2 ⟨⟨⟨ya, yA, yn, yc⟩, ⟨xa, xA, xn, xc⟩, ds', dm', F', fm', fc', R', rm', rc', H', hm', hc', rs'⟩, rfl, hd, hb⟩
  have e1 : ya = a := hd.y.at_
  have e2 : xa = oa := hd.o.at_
  have e3 : ds' = ds := hd.size
  have e4 : dm' = dm := hd.mark
  have e5 : xn = 0 := hd.o.ws.len.symm
  have e6 : fm' = 0 := hd.fs.lef.symm
  have e7 : hm' = 0 := hd.hs.len.symm
  subst e1 e2 e3 e4 e5 e6 e7
  exact ⟨⟨yA, yn, yc, xA, xc, F', fc', R', rm', rc', H', hc', rfl, hd.o.ws.cm, hd.fs.cm, hd.hs.cm⟩, hb⟩
set_option maxRecDepth 100000 in
theorem mv_wd {x b : Int} (hx : Wd x) (hb : 0 ≤ b ∧ b ≤ 1000) : Wd (mvZ b x) := by
  unfold mvZ
  split
  · next h =>
    have e0 : ldZ x = x / 8 := by unfold ldZ; rw [if_neg (by omega)]
    rw [e0] at h
    unfold Wd at hx ⊢
    omega
  · exact hx
set_option maxRecDepth 100000 in
theorem set7k {S : Nat → Prop} {w : World} {D : Nat} (hD : ¬ S D) (v0 v1 v2 v3 v4 v5 v6 : Value) : Keeps S w (((((((w.setCell ⟨D, 0, none⟩ v0).setCell ⟨D, 1, none⟩ v1).setCell ⟨D, 2, none⟩ v2).setCell ⟨D, 3, none⟩ v3).setCell ⟨D, 4, none⟩ v4).setCell ⟨D, 5, none⟩ v5).setCell ⟨D, 6, none⟩ v6) :=
  (((((((Keeps.refl S w).setCell (p := ⟨D, 0, none⟩) hD v0).setCell (p := ⟨D, 1, none⟩) hD v1).setCell (p := ⟨D, 2, none⟩) hD v2).setCell (p := ⟨D, 3, none⟩) hD v3).setCell (p := ⟨D, 4, none⟩) hD v4).setCell (p := ⟨D, 5, none⟩) hD v5).setCell (p := ⟨D, 6, none⟩) hD v6
set_option maxRecDepth 100000 in
/-- Two terms that are the same, compared. -/
theorem same_two {w : World} {tk tn : Int} {tg : Bool} {tA : Option Addr} {tln tlc : Nat} {tu : Int} {ts : ByteArray} {tB : Option Addr} {tm tdd : Nat} {uk un : Int} {ug : Bool} {uA : Option Addr} {uln ulc : Nat} {uu : Int} {us : ByteArray} {uB : Option Addr} {um udd : Nat} {t : Tm}
    (h : TV w ⟨tk, tn, tg, tA, tln, tlc, tu, ts, tB, tm, tdd⟩ t) (g : TV w ⟨uk, un, ug, uA, uln, ulc, uu, us, uB, um, udd⟩ t) :
    Calls Tryz.prog 13 #[.agg #[.int .i64 tk, .int .i64 tn, .bool tg, .slice tA tln tlc, .int .u64 tu, .string ts, .slice tB tm tdd], .agg #[.int .i64 uk, .int .i64 un, .bool ug, .slice uA uln ulc, .int .u64 uu, .string us, .slice uB um udd]] w fun e w2 => e = .returned (.bool true) ∧ Below w.heap.size w w2 :=
  sameTerm_eq t w ⟨tk, tn, tg, tA, tln, tlc, tu, ts, tB, tm, tdd⟩ ⟨uk, un, ug, uA, uln, ulc, uu, us, uB, um, udd⟩ h g
end Go.Proofs.YtejmmjedognaaaaGreat

namespace Go.Proofs.YtejmmjedognaaaaGreat
open Go.RowKit

set_option maxRecDepth 100000 in
theorem step_pure {P : Program} {ops : Array Oper} {o : Oper} {a : Act} {w : World} {K : Act → World → Prop} {Q : Exit → Act → World → Prop} {E : Prop}
    (hg : o.guard = none) (f : Nat) (x1 x2 : Operand) (ts : Array TypeId) (hop : o.op = Op.call { callee := .value (.func f), args := #[x1, x2], argTypes := ts })
    (v1 v2 v : Value) (h1 : a.eval x1 = v1) (h2 : a.eval x2 = v2) (hcf : (callFunc f #[v1, v2]).run P w = .ok (.enter f #[v1, v2]) w) (hc : Calls P f #[v1, v2] w fun e w' => e = .returned v ∧ w = w')
    (hK : K (a.put o.dst v) w) : if Region.wanted o (yielded ops a.tmps) = true then Oper.wp P o a w K Q else E := by
  have hw : Region.wanted o (yielded ops a.tmps) = true := by simp [Region.wanted, hg]
  rw [if_pos hw]
  have ef : a.eval (.func f) = .func (.func f) #[] #[] := rfl
  have hrun : (execOp a.eval o).run P w = .ok (.enter f #[v1, v2]) w := by
    simp [execOp, hop, resolve, invoke, h1, h2, ef, Deferred.ofValue, hcf]
  unfold Oper.wp
  rw [hrun, Oper.upon_enter]
  refine hc.mono ?_
  rintro e w' ⟨rfl, rfl⟩
  exact hK
set_option maxRecDepth 100000 in
theorem moved_enter (v1 v2 : Value) (w : World) : (callFunc 24 #[v1, v2]).run Tryz.prog w = .ok (.enter 24 #[v1, v2]) w := by kernel_rfl
end Go.Proofs.YtejmmjedognaaaaGreat

namespace Go.Proofs.YtejmmjedognaaaaGreat
open Go.RowKit

set_option maxRecDepth 100000 in
theorem set7bb {B : Nat} {a w : World} (h : Below B a w) {D : Nat} (hD : B ≤ D) (v0 v1 v2 v3 v4 v5 v6 : Value) : Below B a (((((((w.setCell ⟨D, 0, none⟩ v0).setCell ⟨D, 1, none⟩ v1).setCell ⟨D, 2, none⟩ v2).setCell ⟨D, 3, none⟩ v3).setCell ⟨D, 4, none⟩ v4).setCell ⟨D, 5, none⟩ v5).setCell ⟨D, 6, none⟩ v6) :=
  ((((((h.setCell (p := ⟨D, 0, none⟩) hD v0).setCell (p := ⟨D, 1, none⟩) hD v1).setCell (p := ⟨D, 2, none⟩) hD v2).setCell (p := ⟨D, 3, none⟩) hD v3).setCell (p := ⟨D, 4, none⟩) hD v4).setCell (p := ⟨D, 5, none⟩) hD v5).setCell (p := ⟨D, 6, none⟩) hD v6
set_option maxRecDepth 100000 in
theorem set7hh {w : World} {D : Nat} {c0 c1 c2 c3 c4 c5 c6 : Value} {t : TypeId} (h : w.heap[D]? = some (.cells #[c0, c1, c2, c3, c4, c5, c6] t (0, 0))) (v0 v1 v2 v3 v4 v5 v6 : Value) :
    (((((((w.setCell ⟨D, 0, none⟩ v0).setCell ⟨D, 1, none⟩ v1).setCell ⟨D, 2, none⟩ v2).setCell ⟨D, 3, none⟩ v3).setCell ⟨D, 4, none⟩ v4).setCell ⟨D, 5, none⟩ v5).setCell ⟨D, 6, none⟩ v6).heap[D]? = some (.cells #[v0, v1, v2, v3, v4, v5, v6] t (0, 0)) := by
  have h0 : (w.setCell ⟨D, 0, none⟩ v0).heap[D]? = some (.cells #[v0, c1, c2, c3, c4, c5, c6] t (0, 0)) := by rw [heap_setCell_same w D 0 _ _ _ h]; simp
  have h1 : ((w.setCell ⟨D, 0, none⟩ v0).setCell ⟨D, 1, none⟩ v1).heap[D]? = some (.cells #[v0, v1, c2, c3, c4, c5, c6] t (0, 0)) := by rw [heap_setCell_same _ D 1 _ _ _ h0]; simp
  have h2 : (((w.setCell ⟨D, 0, none⟩ v0).setCell ⟨D, 1, none⟩ v1).setCell ⟨D, 2, none⟩ v2).heap[D]? = some (.cells #[v0, v1, v2, c3, c4, c5, c6] t (0, 0)) := by rw [heap_setCell_same _ D 2 _ _ _ h1]; simp
  have h3 : ((((w.setCell ⟨D, 0, none⟩ v0).setCell ⟨D, 1, none⟩ v1).setCell ⟨D, 2, none⟩ v2).setCell ⟨D, 3, none⟩ v3).heap[D]? = some (.cells #[v0, v1, v2, v3, c4, c5, c6] t (0, 0)) := by rw [heap_setCell_same _ D 3 _ _ _ h2]; simp
  have h4 : (((((w.setCell ⟨D, 0, none⟩ v0).setCell ⟨D, 1, none⟩ v1).setCell ⟨D, 2, none⟩ v2).setCell ⟨D, 3, none⟩ v3).setCell ⟨D, 4, none⟩ v4).heap[D]? = some (.cells #[v0, v1, v2, v3, v4, c5, c6] t (0, 0)) := by rw [heap_setCell_same _ D 4 _ _ _ h3]; simp
  have h5 : ((((((w.setCell ⟨D, 0, none⟩ v0).setCell ⟨D, 1, none⟩ v1).setCell ⟨D, 2, none⟩ v2).setCell ⟨D, 3, none⟩ v3).setCell ⟨D, 4, none⟩ v4).setCell ⟨D, 5, none⟩ v5).heap[D]? = some (.cells #[v0, v1, v2, v3, v4, v5, c6] t (0, 0)) := by rw [heap_setCell_same _ D 5 _ _ _ h4]; simp
  rw [heap_setCell_same _ D 6 _ _ _ h5]; simp
set_option maxRecDepth 100000 in
theorem set7kk {S : Nat → Prop} {w : World} {D : Nat} (hD : ¬ S D) (v0 v1 v2 v3 v4 v5 v6 : Value) : Keeps S w (((((((w.setCell ⟨D, 0, none⟩ v0).setCell ⟨D, 1, none⟩ v1).setCell ⟨D, 2, none⟩ v2).setCell ⟨D, 3, none⟩ v3).setCell ⟨D, 4, none⟩ v4).setCell ⟨D, 5, none⟩ v5).setCell ⟨D, 6, none⟩ v6) :=
  (((((((Keeps.refl S w).setCell (p := ⟨D, 0, none⟩) hD v0).setCell (p := ⟨D, 1, none⟩) hD v1).setCell (p := ⟨D, 2, none⟩) hD v2).setCell (p := ⟨D, 3, none⟩) hD v3).setCell (p := ⟨D, 4, none⟩) hD v4).setCell (p := ⟨D, 5, none⟩) hD v5).setCell (p := ⟨D, 6, none⟩) hD v6
end Go.Proofs.YtejmmjedognaaaaGreat
