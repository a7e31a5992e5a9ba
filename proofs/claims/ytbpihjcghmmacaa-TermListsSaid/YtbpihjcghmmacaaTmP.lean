/-
  COPIES: beehivelaw0.CopyTerm, CopyTerms.
-/
import Derived.Test.YtbpihjcghmmacaaTmO
namespace Go.Proofs.Ytbpihjcghmmacaa
open Go.RowKit

/-- What a call leaves that copies a term, or terms. -/
def CpT (w : World) (t : Tm) (e : Ending) (w' : World) : Prop := ∃ R : TR, e = .returned (.agg #[.int .i64 R.k, .int .i64 R.n, .bool R.g, .slice R.A R.ln R.lc, .int .u64 R.u, .string R.s, .slice R.B R.m R.d]) ∧ TVS (fun b => w.heap.size ≤ b) w' R t ∧ Below w.heap.size w w'
def CpTs (w : World) (ts : List Tm) (e : Ending) (w' : World) : Prop := ∃ B m d, e = .returned (.slice B m d) ∧ TVSs (fun b => w.heap.size ≤ b) w' B m d ts ∧ Below w.heap.size w w'

set_option maxRecDepth 100000 in
set_option maxHeartbeats 4000000 in
theorem copyTerms_of (ts : List Tm) (ih : ∀ t ∈ ts, ∀ (w : World) (r : TR), TV w r t → Calls Try.prog 30 #[.agg #[.int .i64 r.k, .int .i64 r.n, .bool r.g, .slice r.A r.ln r.lc, .int .u64 r.u, .string r.s, .slice r.B r.m r.d]] w (CpT w t))
    (w : World) (B : Option Addr) (m d : Nat) (hts : TVs w B m d ts) (hm : m ≤ 100000) :
    Calls Try.prog 50 #[.slice B m d] w (CpTs w ts) := by
  have IH := Lib.hid ih
  clear ih
  have hlen := hts.len
  go_enter Try.func50, Try.ntmps50
  go_wp2_with fail
  go_loopw [3, 4] (fun out i w' => ∃ (j : Nat) (B' : Option Addr) (d' : Nat), j ≤ m ∧ i = .int .i64 (j : Int) ∧ out = .slice B' j d' ∧ Row7 w' w.heap.size B' j d' (ts.take j) ∧ Below w.heap.size w w') (fun _ i _ => m - (intOf i).toNat)
  case atStart => exact ⟨0, none, 0, Nat.zero_le _, rfl, rfl, Row7.nil _ _, Below.refl _ _⟩
  case round =>
    obtain ⟨j, B', d', hj, rfl, rfl, row, hb⟩ := hrel
    by_cases hjm : j < m
    · have hd1 : decide ((j : Int) < (m : Int)) = true := by rw [decide_eq_true_iff]; omega
      obtain ⟨b, o, r', t', e, hlt, h7, het, htv'⟩ := (hts.below hb).get j hjm
      have hmem := List.mem_of_getElem? het
      have y0 := h7.c0; have y1 := h7.c1; have y2 := h7.c2; have y3 := h7.c3; have y4 := h7.c4; have y5 := h7.c5; have y6 := h7.c6
      subst e
      go_wp2_with fail
      refine (IH.out t' hmem wr r' htv').mono ?_
      rintro e w2 ⟨R, rfl, hR, hb2⟩
      have hsz := hb.size
      have row2 := (row.below hb2).below ((Below.refl _ _).alloc (Nat.le_refl _) (.cells #[.int .i64 R.k, .int .i64 R.n, .bool R.g, .slice R.A R.ln R.lc, .int .u64 R.u, .string R.s, .slice R.B R.m R.d] 28))
      have hlt2 : ∀ k, (Value.slice B' j d').ownBlock = some k → k < wr.heap.size := by
        obtain ⟨V, h1, _⟩ := row.ex
        exact fun k hk => (h1.lt k hk).2
      have ht2 : TVS (fun b => w.heap.size ≤ b ∧ (Value.slice B' j d').ownBlock ≠ some b) (w2.alloc (.cells #[.int .i64 R.k, .int .i64 R.n, .bool R.g, .slice R.A R.ln R.lc, .int .u64 R.u, .string R.s, .slice R.B R.m R.d] 28)) R t' :=
        (hR.keep (((Keeps.refl _ _).alloc _))).mono fun b h => ⟨Nat.le_trans hsz h, fun e => absurd (hlt2 b e) (by omega)⟩
      have hw2 : w.heap.size ≤ w2.heap.size := Nat.le_trans hsz hb2.size
      have hb3 := (hb.trans (hb2.mono hsz)).alloc hw2 (.cells #[.int .i64 R.k, .int .i64 R.n, .bool R.g, .slice R.A R.ln R.lc, .int .u64 R.u, .string R.s, .slice R.B R.m R.d] 28)
      obtain ⟨B2, d2, w3, hrun, row3, hbr, _⟩ := row2.push ht2 ⟨w2.heap.size, 0, none⟩ 1 (fun k u hu => by
        rw [add_none, World.cell?_alloc_at _ _ _ _ rfl, Nat.zero_add]
        simpa [TR.cells] using hu) (by omega) (by simp; omega) 26
      have HR := Lib.hid hrun
      have hrow := Lib.hid row3
      have hbl := Lib.hid (hb3.trans hbr)
      clear hrun row3 row2 ht2 row hb hb2 hb3 hbr hR hlt2
      have hst := Lib.hid (show ts.take (j + 1) = ts.take j ++ [t'] by rw [List.take_add_one, het]; rfl)
      go_wp2_with (at_builtin; refine wpList_append_run rfl _ _ _ rfl _ _ _ rfl rfl HR.out ?_)
      exact ⟨⟨j + 1, B2, d2, by omega, by go_num, rfl, by rw [hst.out]; exact hrow.out, hbl.out⟩, by simp [intOf]; omega⟩
    · have hd1 : decide ((j : Int) < (m : Int)) = false := by rw [decide_eq_false_iff_not]; omega
      have e : j = m := by omega
      subst e
      go_wp2_with fail
      go_ret
      have := row.tvs
      rw [List.take_of_length_le (by omega)] at this
      exact ⟨B', _, d', rfl, this, hb⟩

theorem Tm.size_kid {t x : Tm} (h : x ∈ t.args) : x.size ≤ t.size := by
  have : ∀ ks : List Tm, x ∈ ks → x.size ≤ Tm.size.sizes ks := by
    intro ks
    induction ks with
    | nil => intro h; cases h
    | cons a r ih =>
      intro h
      rw [Tm.size.sizes]
      rcases List.mem_cons.1 h with rfl | h
      · omega
      · have := ih h; omega
  cases t with
  | mk k n g l u s ks => have := this ks h; rw [Tm.size]; omega
theorem Tm.size_args (t : Tm) : t.args.length ≤ t.size := by
  cases t with
  | mk k n g l u s ks => have := Tm.sizes_len ks; rw [Tm.size]; exact Nat.le_trans this (by omega)

/-- The limbs, or the arguments, of a variable are written over. -/
theorem Box7.set3 {w : World} {g : Nat} {r : TR} (h : Box7 w g r) (A : Option Addr) (n c : Nat) : Box7 (w.setCell ⟨g, 3, none⟩ (.slice A n c)) g ⟨r.k, r.n, r.g, A, n, c, r.u, r.s, r.B, r.m, r.d⟩ := by
  unfold Box7 at h ⊢
  simp [World.setCell, Array.getElem?_modify, h]
theorem Box7.set6 {w : World} {g : Nat} {r : TR} (h : Box7 w g r) (B : Option Addr) (n c : Nat) : Box7 (w.setCell ⟨g, 6, none⟩ (.slice B n c)) g ⟨r.k, r.n, r.g, r.A, r.ln, r.lc, r.u, r.s, B, n, c⟩ := by
  unfold Box7 at h ⊢
  simp [World.setCell, Array.getElem?_modify, h]
theorem Box7.setO {w : World} {g g' : Nat} {r : TR} (h : Box7 w g r) (hn : g' ≠ g) (i : Nat) (v : Value) : Box7 (w.setCell ⟨g', i, none⟩ v) g r := by
  unfold Box7 at h ⊢
  simp [World.setCell, Array.getElem?_modify, h, hn]

set_option maxRecDepth 100000 in
set_option maxHeartbeats 4000000 in
theorem copyTerm_any (t : Tm) : ∀ (w : World) (r : TR), TV w r t → t.Ok → t.size ≤ 100000 → Calls Try.prog 30 #[.agg #[.int .i64 r.k, .int .i64 r.n, .bool r.g, .slice r.A r.ln r.lc, .int .u64 r.u, .string r.s, .slice r.B r.m r.d]] w (CpT w t) := by
  induction t using Tm.ind with
  | h k n g l u s ks ih =>
    intro w r htv hok hsize
    obtain ⟨t, ht⟩ : ∃ t, t = Tm.mk k n g l u s ks := ⟨_, rfl⟩
    have hks : t.args = ks := by rw [ht]; rfl
    rw [← hks] at ih
    rw [← ht] at htv hok hsize ⊢
    clear hks ht
    have IH := Lib.hid (show ∀ x ∈ t.args, ∀ (w : World) (r : TR), TV w r x → Calls Try.prog 30 #[.agg #[.int .i64 r.k, .int .i64 r.n, .bool r.g, .slice r.A r.ln r.lc, .int .u64 r.u, .string r.s, .slice r.B r.m r.d]] w (CpT w x) from
      fun x hx w r h => ih x hx w r h (Ok.kids hok hx) (Nat.le_trans (Tm.size_kid hx) hsize))
    clear ih
    have hln := Ok.limbs htv hok
    have hm : r.m ≤ 100000 := by rw [← htv.len]; exact Nat.le_trans (Tm.size_args t) hsize
    have b0 := ((Below.refl w.heap.size w).alloc (Nat.le_refl _) (.cells #[.int .i64 r.k, .int .i64 r.n, .bool r.g, .slice r.A r.ln r.lc, .int .u64 r.u, .string r.s, .slice r.B r.m r.d] 28)).alloc (by simp) (.cells #[.int .i64 zeroR.k, .int .i64 zeroR.n, .bool zeroR.g, .slice zeroR.A zeroR.ln zeroR.lc, .int .u64 zeroR.u, .string zeroR.s, .slice zeroR.B zeroR.m zeroR.d] 28)
    have hx := (Box7.new w r).below ((Below.refl _ _).alloc (Nat.le_refl _) (.cells #[.int .i64 zeroR.k, .int .i64 zeroR.n, .bool zeroR.g, .slice zeroR.A zeroR.ln zeroR.lc, .int .u64 zeroR.u, .string zeroR.s, .slice zeroR.B zeroR.m zeroR.d] 28))
    have hy := Box7.new (w.alloc (.cells #[.int .i64 r.k, .int .i64 r.n, .bool r.g, .slice r.A r.ln r.lc, .int .u64 r.u, .string r.s, .slice r.B r.m r.d] 28)) zeroR
    rw [World.size_alloc] at hy
    have hW : ((w.alloc (.cells #[.int .i64 r.k, .int .i64 r.n, .bool r.g, .slice r.A r.ln r.lc, .int .u64 r.u, .string r.s, .slice r.B r.m r.d] 28)).alloc (.cells #[.int .i64 zeroR.k, .int .i64 zeroR.n, .bool zeroR.g, .slice zeroR.A zeroR.ln zeroR.lc, .int .u64 zeroR.u, .string zeroR.s, .slice zeroR.B zeroR.m zeroR.d] 28)).heap.size = w.heap.size + 2 := by simp
    obtain ⟨A', c', w1, hrun, hO, hB⟩ := append_lim ((w.alloc (.cells #[.int .i64 r.k, .int .i64 r.n, .bool r.g, .slice r.A r.ln r.lc, .int .u64 r.u, .string r.s, .slice r.B r.m r.d] 28)).alloc (.cells #[.int .i64 zeroR.k, .int .i64 zeroR.n, .bool zeroR.g, .slice zeroR.A zeroR.ln zeroR.lc, .int .u64 zeroR.u, .string zeroR.s, .slice zeroR.B zeroR.m zeroR.d] 28)) (w.heap.size + 2) none 0 0 [] (Own.nil _ _) r.A r.ln r.lc t.mag (htv.flat.lim.below b0) (by omega) (by omega) 22
    rw [Nat.zero_add, List.nil_append] at hO
    rw [Nat.zero_add] at hrun
    have HR := Lib.hid hrun
    clear hrun
    have tvS := htv.tvS
    have hx1 := hx.below (w' := w1) (by rw [hW]; exact hB)
    have hy1 := hy.below (w' := w1) (by rw [hW]; exact hB)
    have b1 := b0.trans (hB.mono (by omega))
    clear hx hy b0
    have x0 := hx1.at.c0; have x1 := hx1.at.c1; have x2 := hx1.at.c2; have x3 := hx1.at.c3; have x4 := hx1.at.c4; have x5 := hx1.at.c5; have x6 := hx1.at.c6; have f0 := hx1.frozen 0; have f1 := hx1.frozen 1; have f2 := hx1.frozen 2; have f3 := hx1.frozen 3; have f4 := hx1.frozen 4; have f5 := hx1.frozen 5; have f6 := hx1.frozen 6
    have hsz1 : w.heap.size + 2 ≤ w1.heap.size := by rw [← hW]; exact hB.size
    go_enter Try.func30, Try.ntmps30
    go_wp2_with (at_builtin; refine wpList_append_run rfl _ _ _ rfl _ _ _ rfl rfl HR.out ?_)
    clear x0 x1 x2 x3 x4 x5 x6 f0 f1 f2 f3 f4 f5 f6
    have b2 := b1.setCell (p := ⟨w.heap.size, 3, none⟩) (Nat.le_refl _) (.slice A' r.ln c')
    have hx2 := hx1.set3 A' r.ln c'
    have hy2 := hy1.setO (g' := w.heap.size) (by omega) 3 (.slice A' r.ln c')
    have tv2 := (tvS.keep (b2.keeps _)).tv
    have hsz2 : (w1.setCell ⟨w.heap.size, 3, none⟩ (.slice A' r.ln c')).heap.size = w1.heap.size := by simp [World.setCell]
    have hblk : 0 < r.ln → ∀ a, A' = some a → w.heap.size + 2 ≤ a.block := fun _ a e => by subst e; exact (World.ownsRow.lt hO.2.2 a.block rfl).1
    have lim2 := hO.lim.keep (S := fun b => w.heap.size + 2 ≤ b) (w' := w1.setCell ⟨w.heap.size, 3, none⟩ (.slice A' r.ln c')) hblk ((Keeps.refl _ _).setCell (by simp only; omega) _)
    have hcap := hO.cap
    have HF := Lib.hid htv.flat
    clear hx1 hy1 b1 hB hO HR tvS hW
    have hK := Lib.hid htv.kind
    generalize w1.setCell ⟨w.heap.size, 3, none⟩ (.slice A' r.ln c') = W2 at *
    refine (copyTerms_of t.args IH.out W2 r.B r.m r.d tv2.args hm).mono ?_
    rintro e w3 ⟨B', m', d', rfl, hT, hb3⟩
    have hx3 := hx2.below hb3
    have hy3 := hy2.below hb3
    have b3 := b2.trans (hb3.mono b2.size)
    have lim3 := lim2.below hb3
    have hT' := hT.mono (S' := fun b => w.heap.size + 2 ≤ b) (fun b h => by omega)
    have hml : m' = r.m := by rw [← hT.len, htv.len]
    subst hml
    clear hx2 hy2 b2 tv2 lim2 hT
    have x0 := hx3.at.c0; have x1 := hx3.at.c1; have x2 := hx3.at.c2; have x3 := hx3.at.c3; have x4 := hx3.at.c4; have x5 := hx3.at.c5; have x6 := hx3.at.c6; have f0 := hx3.frozen 0; have f1 := hx3.frozen 1; have f2 := hx3.frozen 2; have f3 := hx3.frozen 3; have f4 := hx3.frozen 4; have f5 := hx3.frozen 5; have f6 := hx3.frozen 6; have y0 := hy3.at.c0; have y1 := hy3.at.c1; have y2 := hy3.at.c2; have y3 := hy3.at.c3; have y4 := hy3.at.c4; have y5 := hy3.at.c5; have y6 := hy3.at.c6; have h0 := hy3.frozen 0; have h1 := hy3.frozen 1; have h2 := hy3.frozen 2; have h3 := hy3.frozen 3; have h4 := hy3.frozen 4; have h5 := hy3.frozen 5; have h6 := hy3.frozen 6
    have hx4 := hx3.set6 B' r.m d'
    have hy4 := hy3.setO (g' := w.heap.size) (by omega) 6 (.slice B' r.m d')
    have b4 := b3.setCell (p := ⟨w.heap.size, 6, none⟩) (Nat.le_refl _) (.slice B' r.m d')
    have hy5 := hy4.put ⟨r.k, r.n, r.g, A', r.ln, c', r.u, r.s, B', r.m, d'⟩
    have b5 := b4.put7 (g := w.heap.size + 1) (by omega) ⟨r.k, r.n, r.g, A', r.ln, c', r.u, r.s, B', r.m, d'⟩
    have kp := ((Keeps.refl (fun b => w.heap.size + 2 ≤ b) w3).setCell (p := ⟨w.heap.size, 6, none⟩) (by simp only; omega) (.slice B' r.m d')).put7 (g := w.heap.size + 1) (by omega) ⟨r.k, r.n, r.g, A', r.ln, c', r.u, r.s, B', r.m, d'⟩
    have hfin : Hid (TVS (fun b => w.heap.size ≤ b) (put7 (w3.setCell ⟨w.heap.size, 6, none⟩ (.slice B' r.m d')) (w.heap.size + 1) ⟨r.k, r.n, r.g, A', r.ln, c', r.u, r.s, B', r.m, d'⟩) ⟨r.k, r.n, r.g, A', r.ln, c', r.u, r.s, B', r.m, d'⟩ t) := Lib.hid (by
      have hT5 := hT'.keep kp
      have lim5 := lim3.keep hblk kp
      obtain ⟨V, h1, h2⟩ := hT5.el
      have F := HF.out
      have := TVS.mk (S := fun b => w.heap.size + 2 ≤ b) (w := put7 (w3.setCell ⟨w.heap.size, 6, none⟩ (.slice B' r.m d')) (w.heap.size + 1) ⟨r.k, r.n, r.g, A', r.ln, c', r.u, r.s, B', r.m, d'⟩) ⟨r.k, r.n, r.g, A', r.ln, c', r.u, r.s, B', r.m, d'⟩ t.mag t.args V ⟨F.k0, F.k1, F.n0, F.n1, F.u0, F.u1, lim5, hcap.2, F.str, hT'.md, hT'.dd⟩ hT'.len h1 ⟨hblk, fun h a e => hT'.on h a e⟩ h2
      have et : Tm.mk r.k r.n r.g t.mag r.u r.s t.args = t := by
        have e1 := htv.kind
        have e2 := htv.num
        have e3 := htv.neg
        have e4 := htv.bits
        have e5 := htv.bytes
        cases t
        simp only [Tm.kind, Tm.num, Tm.neg, Tm.bits, Tm.bytes] at e1 e2 e3 e4 e5
        subst e1 e2 e3 e4 e5
        rfl
      rw [← et]
      exact this.mono (fun b h => by omega))
    have HB := Lib.hid b5
    have HY := Lib.hid hy5
    clear hx4 hy4 b4 hy5 b5 kp hx3 hy3 b3 lim3 hT'
    go_wp2
    have C := HY.out.at
    have z0 := C.c0; have z1 := C.c1; have z2 := C.c2; have z3 := C.c3; have z4 := C.c4; have z5 := C.c5; have z6 := C.c6
    have hB5 := HB.out
    have hF5 := hfin.out
    clear C HB HY hfin x0 x1 x2 x3 x4 x5 x6 f0 f1 f2 f3 f4 f5 f6 y0 y1 y2 y3 y4 y5 y6 h0 h1 h2 h3 h4 h5 h6
    change bodyPost _ _ _ _ _ (put7 (w3.setCell ⟨w.heap.size, 6, none⟩ (.slice B' r.m d')) (w.heap.size + 1) ⟨r.k, r.n, r.g, A', r.ln, c', r.u, r.s, B', r.m, d'⟩)
    generalize put7 (w3.setCell ⟨w.heap.size, 6, none⟩ (.slice B' r.m d')) (w.heap.size + 1) ⟨r.k, r.n, r.g, A', r.ln, c', r.u, r.s, B', r.m, d'⟩ = W5 at *
    exact bodyPost_ret (v := .agg #[.int .i64 r.k, .int .i64 r.n, .bool r.g, .slice A' r.ln c', .int .u64 r.u, .string r.s, .slice B' r.m d']) (by simp [results, Try.results30, go_sem, z0, z1, z2, z3, z4, z5, z6]) rfl ⟨⟨r.k, r.n, r.g, A', r.ln, c', r.u, r.s, B', r.m, d'⟩, rfl, hF5, hB5⟩
end Go.Proofs.Ytbpihjcghmmacaa
