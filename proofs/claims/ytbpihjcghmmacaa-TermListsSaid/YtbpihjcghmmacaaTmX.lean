/-
  TWO TERMS AS THEY STAND: beehivelaw0.SameTerm, SameTerms, of terms that are the same.
-/
import Derived.Test.YtbpihjcghmmacaaTmW
namespace Go.Proofs.Ytbpihjcghmmacaa
open Go.RowKit

theorem twoS {W v : World} {b o b' o' : Nat} {ra rb : TR} (hv : Below W.heap.size W v)
    (h : At7 W b o ra) (hlt : b < W.heap.size) (h' : At7 W b' o' rb) (hlt' : b' < W.heap.size) : v.cell? ⟨b, o, none⟩ = some (.int .i64 ra.k) ∧ v.cell? ⟨b, o + 1, none⟩ = some (.int .i64 ra.n) ∧ v.cell? ⟨b, o + 2, none⟩ = some (.bool ra.g) ∧ v.cell? ⟨b, o + 3, none⟩ = some (.slice ra.A ra.ln ra.lc) ∧ v.cell? ⟨b, o + 4, none⟩ = some (.int .u64 ra.u) ∧ v.cell? ⟨b, o + 5, none⟩ = some (.string ra.s) ∧ v.cell? ⟨b, o + 6, none⟩ = some (.slice ra.B ra.m ra.d) ∧ v.cell? ⟨b', o', none⟩ = some (.int .i64 rb.k) ∧ v.cell? ⟨b', o' + 1, none⟩ = some (.int .i64 rb.n) ∧ v.cell? ⟨b', o' + 2, none⟩ = some (.bool rb.g) ∧ v.cell? ⟨b', o' + 3, none⟩ = some (.slice rb.A rb.ln rb.lc) ∧ v.cell? ⟨b', o' + 4, none⟩ = some (.int .u64 rb.u) ∧ v.cell? ⟨b', o' + 5, none⟩ = some (.string rb.s) ∧ v.cell? ⟨b', o' + 6, none⟩ = some (.slice rb.B rb.m rb.d) :=
  seven (h.below hv hlt) (seven' (h'.below hv hlt'))

set_option maxRecDepth 100000 in
set_option maxHeartbeats 4000000 in
theorem sameTerms_of (ts : List Tm) (ih : ∀ t ∈ ts, ∀ (w : World) (r r' : TR), TV w r t → TV w r' t → Calls Try.prog 20 #[.agg #[.int .i64 r.k, .int .i64 r.n, .bool r.g, .slice r.A r.ln r.lc, .int .u64 r.u, .string r.s, .slice r.B r.m r.d], .agg #[.int .i64 r'.k, .int .i64 r'.n, .bool r'.g, .slice r'.A r'.ln r'.lc, .int .u64 r'.u, .string r'.s, .slice r'.B r'.m r'.d]] w fun e w' => e = .returned (.bool true) ∧ Below w.heap.size w w')
    (w : World) (B : Option Addr) (m d : Nat) (hts : TVs w B m d ts) (B' : Option Addr) (d' : Nat) (hts' : TVs w B' m d' ts) :
    Calls Try.prog 46 #[.slice B m d, .slice B' m d'] w fun e w' => e = .returned (.bool true) ∧ Below w.heap.size w w' := by
  have IH := Lib.hid ih
  clear ih
  have hml : m ≤ maxLen := Nat.le_trans hts.md hts.dd
  have hml' : (m : Int) ≤ 9223372036854775807 := by unfold maxLen at hml; omega
  go_enter Try.func46, Try.ntmps46
  go_wp2_with fail
  go_loopw [5] (fun i w' => ∃ j : Nat, j ≤ m ∧ i = .int .i64 (j : Int) ∧ Below w.heap.size w w') (fun i _ => m - (intOf i).toNat)
  case atStart => exact ⟨0, Nat.zero_le _, rfl, Below.refl _ _⟩
  case round =>
    obtain ⟨j, hj, rfl, hb⟩ := hrel
    by_cases hjm : j < m
    · have hd1 : decide ((j : Int) < (m : Int)) = true := by rw [decide_eq_true_iff]; omega
      obtain ⟨b, o, ra, t, e, hlt, h7, het, htv⟩ := (hts.below hb).get j hjm
      obtain ⟨b', o', rb, t', e', hlt', h7', het', htv'⟩ := (hts'.below hb).get j hjm
      rw [het] at het'
      cases het'
      subst e e'
      have hmem := List.mem_of_getElem? het
      have d0 := h7.c0; have d1 := h7.c1; have d2 := h7.c2; have d3 := h7.c3; have d4 := h7.c4; have d5 := h7.c5; have d6 := h7.c6; have c0 := h7'.c0; have c1 := h7'.c1; have c2 := h7'.c2; have c3 := h7'.c3; have c4 := h7'.c4; have c5 := h7'.c5; have c6 := h7'.c6
      have H7 := Lib.hid h7
      have H7' := Lib.hid h7'
      have HT := Lib.hid htv
      have HT' := Lib.hid htv'
      have IA := Lib.hid (IH.out t hmem)
      clear h7 h7' htv htv'
      go_wp2_with fail
      go_region_held3 (fun w' => w'.cell? ⟨b, o + j * 7, none⟩ = some (.int .i64 ra.k) ∧ w'.cell? ⟨b, o + j * 7 + 1, none⟩ = some (.int .i64 ra.n) ∧ w'.cell? ⟨b, o + j * 7 + 2, none⟩ = some (.bool ra.g) ∧ w'.cell? ⟨b, o + j * 7 + 3, none⟩ = some (.slice ra.A ra.ln ra.lc) ∧ w'.cell? ⟨b, o + j * 7 + 4, none⟩ = some (.int .u64 ra.u) ∧ w'.cell? ⟨b, o + j * 7 + 5, none⟩ = some (.string ra.s) ∧ w'.cell? ⟨b, o + j * 7 + 6, none⟩ = some (.slice ra.B ra.m ra.d) ∧ w'.cell? ⟨b', o' + j * 7, none⟩ = some (.int .i64 rb.k) ∧ w'.cell? ⟨b', o' + j * 7 + 1, none⟩ = some (.int .i64 rb.n) ∧ w'.cell? ⟨b', o' + j * 7 + 2, none⟩ = some (.bool rb.g) ∧ w'.cell? ⟨b', o' + j * 7 + 3, none⟩ = some (.slice rb.A rb.ln rb.lc) ∧ w'.cell? ⟨b', o' + j * 7 + 4, none⟩ = some (.int .u64 rb.u) ∧ w'.cell? ⟨b', o' + j * 7 + 5, none⟩ = some (.string rb.s) ∧ w'.cell? ⟨b', o' + j * 7 + 6, none⟩ = some (.slice rb.B rb.m rb.d))
        (first | exact ⟨d0, d1, d2, d3, d4, d5, d6, c0, c1, c2, c3, c4, c5, c6⟩ | exact KS.out)
        (first
          | (go_at_call 20; refine (IA.out wr.drew ra rb (by exact HT.out.bel (Below.refl _ _).drew) (by exact HT'.out.bel (Below.refl _ _).drew)).mono ?_; rintro e v ⟨rfl, hv⟩; have KS := Lib.hid (twoS (W := wr.drew) hv (H7.out.below (Below.refl _ _).drew hlt) hlt (H7'.out.below (Below.refl _ _).drew hlt') hlt'); have hB := Lib.hid ((hb.drew).trans (hv.mono hb.size)); clear hv))
      clear d0 d1 d2 d3 d4 d5 d6 c0 c1 c2 c3 c4 c5 c6
      go_wp2_with fail
      go_roundw
      case rel => exact ⟨j + 1, by omega, by go_num, hB.out⟩
      case measure => simp [intOf]; omega
    · have hd1 : decide ((j : Int) < (m : Int)) = false := by rw [decide_eq_false_iff_not]; omega
      go_wp2
      go_ret
      exact ⟨rfl, hb⟩

set_option maxRecDepth 100000 in
set_option maxHeartbeats 4000000 in
theorem sameTerm_raw (w : World) (k n : Int) (g : Bool) (A : Option Addr) (ln lc : Nat) (u : Int) (s : ByteArray) (B : Option Addr) (m d : Nat) (A' : Option Addr) (lc' : Nat) (B' : Option Addr) (d' : Nat) (l : List Nat) (ts : List Tm)
    (ih : ∀ t ∈ ts, ∀ (w : World) (r r' : TR), TV w r t → TV w r' t → Calls Try.prog 20 #[.agg #[.int .i64 r.k, .int .i64 r.n, .bool r.g, .slice r.A r.ln r.lc, .int .u64 r.u, .string r.s, .slice r.B r.m r.d], .agg #[.int .i64 r'.k, .int .i64 r'.n, .bool r'.g, .slice r'.A r'.ln r'.lc, .int .u64 r'.u, .string r'.s, .slice r'.B r'.m r'.d]] w fun e w' => e = .returned (.bool true) ∧ Below w.heap.size w w')
    (hl : Lim w A ln lc l) (hc : lc ≤ maxLen) (hl' : Lim w A' ln lc' l) (hc' : lc' ≤ maxLen) (hts : TVs w B m d ts) (hts' : TVs w B' m d' ts) :
    Calls Try.prog 20 #[.agg #[.int .i64 k, .int .i64 n, .bool g, .slice A ln lc, .int .u64 u, .string s, .slice B m d], .agg #[.int .i64 k, .int .i64 n, .bool g, .slice A' ln lc', .int .u64 u, .string s, .slice B' m d']] w fun e w' => e = .returned (.bool true) ∧ Below w.heap.size w w' := by
  have IH := Lib.hid ih
  clear ih
  have hb0 := ((Below.refl w.heap.size w).alloc (Nat.le_refl _) (.cells #[.int .i64 (TR.mk k n g A ln lc u s B m d).k, .int .i64 (TR.mk k n g A ln lc u s B m d).n, .bool (TR.mk k n g A ln lc u s B m d).g, .slice (TR.mk k n g A ln lc u s B m d).A (TR.mk k n g A ln lc u s B m d).ln (TR.mk k n g A ln lc u s B m d).lc, .int .u64 (TR.mk k n g A ln lc u s B m d).u, .string (TR.mk k n g A ln lc u s B m d).s, .slice (TR.mk k n g A ln lc u s B m d).B (TR.mk k n g A ln lc u s B m d).m (TR.mk k n g A ln lc u s B m d).d] 28)).alloc (by simp) (.cells #[.int .i64 (TR.mk k n g A' ln lc' u s B' m d').k, .int .i64 (TR.mk k n g A' ln lc' u s B' m d').n, .bool (TR.mk k n g A' ln lc' u s B' m d').g, .slice (TR.mk k n g A' ln lc' u s B' m d').A (TR.mk k n g A' ln lc' u s B' m d').ln (TR.mk k n g A' ln lc' u s B' m d').lc, .int .u64 (TR.mk k n g A' ln lc' u s B' m d').u, .string (TR.mk k n g A' ln lc' u s B' m d').s, .slice (TR.mk k n g A' ln lc' u s B' m d').B (TR.mk k n g A' ln lc' u s B' m d').m (TR.mk k n g A' ln lc' u s B' m d').d] 28)
  have hx := (Box7.new w (TR.mk k n g A ln lc u s B m d)).below ((Below.refl _ _).alloc (Nat.le_refl _) (.cells #[.int .i64 (TR.mk k n g A' ln lc' u s B' m d').k, .int .i64 (TR.mk k n g A' ln lc' u s B' m d').n, .bool (TR.mk k n g A' ln lc' u s B' m d').g, .slice (TR.mk k n g A' ln lc' u s B' m d').A (TR.mk k n g A' ln lc' u s B' m d').ln (TR.mk k n g A' ln lc' u s B' m d').lc, .int .u64 (TR.mk k n g A' ln lc' u s B' m d').u, .string (TR.mk k n g A' ln lc' u s B' m d').s, .slice (TR.mk k n g A' ln lc' u s B' m d').B (TR.mk k n g A' ln lc' u s B' m d').m (TR.mk k n g A' ln lc' u s B' m d').d] 28))
  have hy := Box7.new (w.alloc (.cells #[.int .i64 (TR.mk k n g A ln lc u s B m d).k, .int .i64 (TR.mk k n g A ln lc u s B m d).n, .bool (TR.mk k n g A ln lc u s B m d).g, .slice (TR.mk k n g A ln lc u s B m d).A (TR.mk k n g A ln lc u s B m d).ln (TR.mk k n g A ln lc u s B m d).lc, .int .u64 (TR.mk k n g A ln lc u s B m d).u, .string (TR.mk k n g A ln lc u s B m d).s, .slice (TR.mk k n g A ln lc u s B m d).B (TR.mk k n g A ln lc u s B m d).m (TR.mk k n g A ln lc u s B m d).d] 28)) (TR.mk k n g A' ln lc' u s B' m d')
  rw [World.size_alloc] at hy
  have hl0 := hl.below hb0
  have hl0' := hl'.below hb0
  have t0 := hts.below hb0
  have t0' := hts'.below hb0
  clear hl hl' hts hts'
  go_enter Try.func20, Try.ntmps20
  go_wp2_with fail
  generalize (w.alloc (.cells #[.int .i64 (TR.mk k n g A ln lc u s B m d).k, .int .i64 (TR.mk k n g A ln lc u s B m d).n, .bool (TR.mk k n g A ln lc u s B m d).g, .slice (TR.mk k n g A ln lc u s B m d).A (TR.mk k n g A ln lc u s B m d).ln (TR.mk k n g A ln lc u s B m d).lc, .int .u64 (TR.mk k n g A ln lc u s B m d).u, .string (TR.mk k n g A ln lc u s B m d).s, .slice (TR.mk k n g A ln lc u s B m d).B (TR.mk k n g A ln lc u s B m d).m (TR.mk k n g A ln lc u s B m d).d] 28)).alloc (.cells #[.int .i64 (TR.mk k n g A' ln lc' u s B' m d').k, .int .i64 (TR.mk k n g A' ln lc' u s B' m d').n, .bool (TR.mk k n g A' ln lc' u s B' m d').g, .slice (TR.mk k n g A' ln lc' u s B' m d').A (TR.mk k n g A' ln lc' u s B' m d').ln (TR.mk k n g A' ln lc' u s B' m d').lc, .int .u64 (TR.mk k n g A' ln lc' u s B' m d').u, .string (TR.mk k n g A' ln lc' u s B' m d').s, .slice (TR.mk k n g A' ln lc' u s B' m d').B (TR.mk k n g A' ln lc' u s B' m d').m (TR.mk k n g A' ln lc' u s B' m d').d] 28) = W at *
  refine (sameNum_any W g g A A' ln lc ln lc' l l hl0 hc hl0' hc').mono ?_
  rw [show sameB g g l l = true by simp [sameB]]
  rintro e w1 ⟨rfl, hb1⟩
  have hx1 := hx.below hb1
  have hy1 := hy.below hb1
  have y0 := hx1.at.c0; have y1 := hx1.at.c1; have y2 := hx1.at.c2; have y3 := hx1.at.c3; have y4 := hx1.at.c4; have y5 := hx1.at.c5; have y6 := hx1.at.c6; have x0 := hy1.at.c0; have x1 := hy1.at.c1; have x2 := hy1.at.c2; have x3 := hy1.at.c3; have x4 := hy1.at.c4; have x5 := hy1.at.c5; have x6 := hy1.at.c6
  go_wp2_with fail
  refine (sameTerms_of ts IH.out w1 B m d (t0.below hb1) B' d' (t0'.below hb1)).mono ?_
  rintro e w2 ⟨rfl, hb2⟩
  have b1 := hb0.trans (hb1.mono hb0.size)
  go_wp2
  go_ret
  exact ⟨rfl, b1.trans (hb2.mono b1.size)⟩
theorem sameTerm_eq (t : Tm) : ∀ (w : World) (r r' : TR), TV w r t → TV w r' t → Calls Try.prog 20 #[.agg #[.int .i64 r.k, .int .i64 r.n, .bool r.g, .slice r.A r.ln r.lc, .int .u64 r.u, .string r.s, .slice r.B r.m r.d], .agg #[.int .i64 r'.k, .int .i64 r'.n, .bool r'.g, .slice r'.A r'.ln r'.lc, .int .u64 r'.u, .string r'.s, .slice r'.B r'.m r'.d]] w fun e w' => e = .returned (.bool true) ∧ Below w.heap.size w w' := by
  induction t using Tm.ind with
  | h k n g l u s ks ih =>
    intro w r r' h h'
    have hks : (Tm.mk k n g l u s ks).args = ks := rfl
    rw [← hks] at ih
    generalize Tm.mk k n g l u s ks = t at *
    have e1 := h.kind.symm.trans h'.kind
    have e2 := h.num.symm.trans h'.num
    have e3 := h.neg.symm.trans h'.neg
    have e4 := h.bits.symm.trans h'.bits
    have e5 := h.bytes.symm.trans h'.bytes
    have e6 := h.len.symm.trans h'.len
    have e7 := h.magLen.symm.trans h'.magLen
    have h1 := h.flat.lim
    have h2 := h.flat.cap
    have h3 := h'.flat.lim
    have h4 := h'.flat.cap
    have h5 := h.args
    have h6 := h'.args
    rw [← e1, ← e2, ← e3, ← e4, ← e5, ← e6, ← e7]
    rw [← e7] at h3
    rw [← e6] at h6
    exact sameTerm_raw w r.k r.n r.g r.A r.ln r.lc r.u r.s r.B r.m r.d r'.A r'.lc r'.B r'.d t.mag t.args ih h1 h2 h3 h4 h5 h6
end Go.Proofs.Ytbpihjcghmmacaa
