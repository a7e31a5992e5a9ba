/-
  A DUMP WITH OTHER ROOTS: what is asked of it; rows that are laid one behind the other.
-/
import Derived.Test.YtejmmjedognaaaaGreatL42
import Derived.Test.YtejmmjedognaaaaGreatL2
namespace Go.Proofs.YtejmmjedognaaaaGreat
open Go.RowKit Go.Shelf
open St

set_option maxRecDepth 100000 in
theorem why_ne {gs : List Frg} {S : List Slt} {d : Dmp} (h : whyO gs S d ≠ ⟨#[]⟩) : (whyO gs S d).toList.isEmpty = false := by
  unfold whyO at h ⊢
  repeat' split
  all_goals first
    | rfl
    | (simp_all; done)
set_option maxRecDepth 100000 in
theorem Sm.all {w : World} {r : DR} {d : Dmp} (hs : Sm r) (h : DV w r d) : ∀ f ∈ d.y :: d.o :: d.fs, f.ws.length ≤ 1000 := by
  intro f hf
  rcases List.mem_cons.1 hf with rfl | hf
  · rw [h.y.ws.len]; have := hs.y; omega
  · rcases List.mem_cons.1 hf with rfl | hf
    · rw [h.o.ws.len]; have := hs.o; omega
    · obtain ⟨i, hi, rfl⟩ := List.getElem_of_mem hf
      have hi2 : i < r.fm := by rw [← h.fs.lef]; exact hi
      have := (h.fs.fv i hi2).ws.len
      rw [List.getD_eq_getElem?_getD, List.getElem?_eq_getElem hi] at this
      simp only [Option.getD_some] at this
      rw [this]
      have := hs.fs i hi2
      omega
set_option maxRecDepth 100000 in
/-- The same dump with other roots. -/
theorem dv_roots {w : World} {r : DR} {d : Dmp} (h : DV w r d) {R' : Option Addr} {m' c' : Nat} {rs : List Int} (hz : Zs .u64 w R' m' c' rs) : DV w { r with R := R', rm := m', rc := c' } { d with roots := rs } :=
  ⟨h.y, h.o, h.size, h.mark, h.wfs, h.wfm, h.fs, hz, h.hs⟩
set_option maxRecDepth 100000 in
/-- What is asked of a dump that is small. -/
theorem asked {w : World} {r : DR} {d : Dmp} (h : DV w r d) (hs : Sm r) {SA : Option Addr} {sm sc : Nat} {S : List Slt} (hS : SLs w SA sm sc S) (hsm : sm ≤ 1000) {R' : Option Addr} {m' c' : Nat} {rs : List Int} (hz : Zs .u64 w R' m' c' rs) (hm : m' ≤ 1000) :
    (Sepa (d.y :: d.o :: d.fs) → Calls Tryz.prog 19 #[.agg #[.int .i64 r.y.at_, .slice r.y.A r.y.n r.y.c, .int .i64 r.o.at_, .slice r.o.A r.o.n r.o.c, .int .i64 r.size, .int .i64 r.mark, .slice r.F r.fm r.fc, .slice R' m' c', .slice r.H r.hm r.hc]] w fun e w2 => (∃ l, Rchd (d.y :: d.o :: d.fs) rs l ∧ e = .returned (.int .i64 (szO l))) ∧ Below w.heap.size w w2) ∧
    Calls Tryz.prog 12 #[.agg #[.int .i64 r.y.at_, .slice r.y.A r.y.n r.y.c, .int .i64 r.o.at_, .slice r.o.A r.o.n r.o.c, .int .i64 r.size, .int .i64 r.mark, .slice r.F r.fm r.fc, .slice R' m' c', .slice r.H r.hm r.hc], .slice SA sm sc] w (fun e w2 => e = .returned (.string (whyO (d.y :: d.o :: d.fs) S { d with roots := rs })) ∧ Below w.heap.size w w2) ∧
    (rs = [] → Calls Tryz.prog 18 #[.agg #[.int .i64 r.y.at_, .slice r.y.A r.y.n r.y.c, .int .i64 r.o.at_, .slice r.o.A r.o.n r.o.c, .int .i64 r.size, .int .i64 r.mark, .slice r.F r.fm r.fc, .slice R' m' c', .slice r.H r.hm r.hc]] w fun e w2 => (∃ A c, e = .returned (.slice A 0 c)) ∧ Below w.heap.size w w2) := by
  have hd := dv_roots h hz
  have ha : ∀ f ∈ d.y :: d.o :: d.fs, f.ws.length ≤ 1000 := hs.all h
  have hf6 := hs.fm
  have hh : r.hm ≤ 1000 := by have := hs.hm; omega
  clear hs h hz
  refine ⟨fun hse => ?_, ?_, fun hrs => ?_⟩
  · refine (live_any hd hf6 ha hm).mono ?_
    rintro e w2 ⟨gs', l, hg, hR, rfl, hb⟩
    rcases hg with ⟨_, rfl⟩ | ⟨hn, _⟩
    · exact ⟨⟨l, hR, rfl⟩, hb⟩
    · exact absurd hse hn
  · exact why_any hd hf6 ha hm hh hS hsm
  · have hr : ({ d with roots := rs } : Dmp).roots = [] := hrs
    have q := handles_nil hd hf6 ha hr
    exact q
set_option maxRecDepth 100000 in
/-- A root of a right dump is read. -/
theorem read_root {w : World} {r : DR} {d : Dmp} (h : DV w r d) (hs : Sm r) {SA : Option Addr} {sm sc : Nat} {S : List Slt} (hS : SLs w SA sm sc S) (hsm : sm ≤ 1000) (hr : RtsOk (d.y :: d.o :: d.fs) S d.roots) (x : Int) (hx : Wd x) (hm : x ∈ d.roots) :
    Calls Tryz.prog 10 #[.agg #[.int .i64 r.y.at_, .slice r.y.A r.y.n r.y.c, .int .i64 r.o.at_, .slice r.o.A r.o.n r.o.c, .int .i64 r.size, .int .i64 r.mark, .slice r.F r.fm r.fc, .slice r.R r.rm r.rc, .slice r.H r.hm r.hc], .slice SA sm sc, .int .u64 x] w fun e w2 =>
      (∃ k n g A ln lc u s B m dd, e = .returned (.tuple #[.agg #[.int .i64 k, .int .i64 n, .bool g, .slice A ln lc, .int .u64 u, .string s, .slice B m dd], .bool true]) ∧ (k == 0) = false) ∧ Below w.heap.size w w2 := by
  refine (read_any h (by have := hs.fm; omega) (hs.all h) hS hsm x hx).mono ?_
  rintro e w2 ⟨⟨t, R, ht, _, rfl, tv, _⟩ | ⟨hno, _⟩, hb⟩
  · refine ⟨⟨R.k, R.n, R.g, R.A, R.ln, R.lc, R.u, R.s, R.B, R.m, R.d, rfl, ?_⟩, hb⟩
    rw [← tv.tv.kind]
    exact beq_eq_false_iff_ne.2 (rd_kind ht)
  · obtain ⟨t, ht, hw⟩ := hr x hm
    have := hno t ht
    omega
set_option maxRecDepth 100000 in
theorem own_zs {w : World} {B : Nat} {A : Option Addr} {n c : Nat} {zs : List Int} (h : w.ownsRow B 30 1 (.slice A n c) n (u64s zs)) (hl : zs.length = n) (hwf : ∀ x ∈ zs, (Lit.int .u64 x).wf = true) : Zs .u64 w A n c zs := by
  rcases h.2 with ⟨h0, h1⟩ | ⟨g, cap, cur, hv, hbg, hgg, hnc, hcm, hcs, htk⟩
  · injection h0 with e1 e2 e3
    subst e1 e2 e3
    have hzs : zs = [] := List.eq_nil_of_length_eq_zero hl
    subst hzs
    exact Zs.nil _ _
  · injection hv with e1 _ e3
    subst e1 e3
    refine ⟨hl, hnc, hcm, hwf, fun hn => ⟨g, 0, rfl, (Array.getElem?_eq_some_iff.1 hgg).1, fun j hj => ?_⟩⟩
    have h1 := World.ownsRow.cellAt h j (by omega)
    rw [Nat.zero_add, h1, u64s_get (by omega)]
set_option maxRecDepth 100000 in
theorem zs_pre {q : IntKind} {w : World} {A : Option Addr} {n c : Nat} {zs : List Int} {j : Nat} (h : Zs q w A n c zs) (hj : j ≤ n) : Zs q w A j c (zs.take j) := by
  refine ⟨by rw [List.length_take, h.len]; omega, Nat.le_trans hj h.nc, h.cm, fun z hz => h.wf z (List.mem_of_mem_take hz), fun h0 => ?_⟩
  obtain ⟨b, o, e, hlt, hc⟩ := h.el (by omega)
  refine ⟨b, o, e, hlt, fun i hi => ?_⟩
  rw [hc i (by omega), List.getD_eq_getElem?_getD, List.getD_eq_getElem?_getD, List.getElem?_take_of_lt hi]
set_option maxRecDepth 100000 in
theorem twice_prep {w : World} {A : Option Addr} {m c : Nat} {zs : List Int} (hz : Zs .u64 w A m c zs) (hm : m ≤ 1000) :
    ∃ A4 c4 w4 A6 c6 w6, (Builtin.append_ #[22, 22] 22 #[.slice none 0 0, .slice A m c]).run Tryz.prog w = .ok (.slice A4 m c4) w4 ∧
      (Builtin.append_ #[22, 22] 22 #[.slice A4 m c4, .slice A m c]).run Tryz.prog w4 = .ok (.slice A6 (m + m) c6) w6 ∧ Below w.heap.size w w4 ∧ Below w.heap.size w w6 ∧ Zs .u64 w6 A6 (m + m) c6 (zs ++ zs) := by
  obtain ⟨A4, c4, w4, h1, h2, h3⟩ := u64_app (zs := []) (World.ownsRow_nil w w.heap.size 30 1) hz (Nat.le_refl _) (by omega) 22
  rw [Nat.zero_add] at h1 h2
  rw [List.nil_append] at h2
  have b4 : Below w.heap.size w w4 := (Below.refl _ w).grown h3 (Nat.le_refl _) (fun k e => by cases e)
  obtain ⟨A6, c6, w6, k1, k2, k3⟩ := u64_app h2 (hz.below b4) b4.size (by omega) 22
  refine ⟨A4, c4, w4, A6, c6, w6, h1, k1, b4, b4.grown k3 b4.size (fun k e => (World.ownsRow.lt h2 k e).1), own_zs k2 (by rw [List.length_append, hz.len]) (fun x hx => ?_)⟩
  rcases List.mem_append.1 hx with hx | hx <;> exact hz.wf x hx
end Go.Proofs.YtejmmjedognaaaaGreat
