/-
  A DUMP WITH OTHER ROOTS: what is asked of it; rows that are laid one behind the other.
  A REGION THAT ENDS IN ONE WAY, whatever order is drawn.
  PACKAGE term: List.
  WHAT EVERY PROGRAM ANSWERS THAT IS ONE: awake of beehivelaw4.
  TWO TERMS AS THEY STAND: beehivelaw0.SameTerm, SameTerms, of terms that are the same.
  THE LAW LookMoves: its walk.
-/
import Derived.Test.YtejmmjedognaaaaGreatMv40
import Derived.Test.YtejmmjedognaaaaGreatMv2
import Derived.Test.YtejmmjedognaaaaGreatMv32
import Derived.Test.YtejmmjedognaaaaGreatMv3
import Derived.Test.YtejmmjedognaaaaGreatMv5
namespace Go.Proofs.YtejmmjedognaaaaGreat
open Go.RowKit Go.Shelf
open St

set_option maxRecDepth 100000 in
theorem why_ne {gs : List Frg} {S : List Slt} {d : Dmp} (h : whyO gs S d ≠ ⟨#[]⟩) : (whyO gs S d).toList.isEmpty = false := by
  unfold whyO at h ⊢
  repeat' split
  all_goals first
    | rfl
    | (simp_all; done)
set_option maxRecDepth 100000 in
theorem Sm.all {w : World} {r : DR} {d : Dmp} (hs : Sm r) (h : DV w r d) : ∀ f ∈ d.y :: d.o :: d.fs, f.ws.length ≤ 1000 := by
  intro f hf
  rcases List.mem_cons.1 hf with rfl | hf
  · rw [h.y.ws.len]; have := hs.y; omega
  · rcases List.mem_cons.1 hf with rfl | hf
    · rw [h.o.ws.len]; have := hs.o; omega
    · obtain ⟨i, hi, rfl⟩ := List.getElem_of_mem hf
      have hi2 : i < r.fm := by rw [← h.fs.lef]; exact hi
      have := (h.fs.fv i hi2).ws.len
      rw [List.getD_eq_getElem?_getD, List.getElem?_eq_getElem hi] at this
      simp only [Option.getD_some] at this
      rw [this]
      have := hs.fs i hi2
      omega
set_option maxRecDepth 100000 in
/-- The same dump with other roots. -/
theorem dv_roots {w : World} {r : DR} {d : Dmp} (h : DV w r d) {R' : Option Addr} {m' c' : Nat} {rs : List Int} (hz : Zs .u64 w R' m' c' rs) : DV w { r with R := R', rm := m', rc := c' } { d with roots := rs } :=
  ⟨h.y, h.o, h.size, h.mark, h.wfs, h.wfm, h.fs, hz, h.hs⟩
set_option maxRecDepth 100000 in
/-- What is asked of a dump that is small. -/
theorem asked {w : World} {r : DR} {d : Dmp} (h : DV w r d) (hs : Sm r) {SA : Option Addr} {sm sc : Nat} {S : List Slt} (hS : SLs w SA sm sc S) (hsm : sm ≤ 1000) {R' : Option Addr} {m' c' : Nat} {rs : List Int} (hz : Zs .u64 w R' m' c' rs) (hm : m' ≤ 1000) :
    (Sepa (d.y :: d.o :: d.fs) → Calls Tryz.prog 19 #[.agg #[.int .i64 r.y.at_, .slice r.y.A r.y.n r.y.c, .int .i64 r.o.at_, .slice r.o.A r.o.n r.o.c, .int .i64 r.size, .int .i64 r.mark, .slice r.F r.fm r.fc, .slice R' m' c', .slice r.H r.hm r.hc]] w fun e w2 => (∃ l, Rchd (d.y :: d.o :: d.fs) rs l ∧ e = .returned (.int .i64 (szO l))) ∧ Below w.heap.size w w2) ∧
    Calls Tryz.prog 12 #[.agg #[.int .i64 r.y.at_, .slice r.y.A r.y.n r.y.c, .int .i64 r.o.at_, .slice r.o.A r.o.n r.o.c, .int .i64 r.size, .int .i64 r.mark, .slice r.F r.fm r.fc, .slice R' m' c', .slice r.H r.hm r.hc], .slice SA sm sc] w (fun e w2 => e = .returned (.string (whyO (d.y :: d.o :: d.fs) S { d with roots := rs })) ∧ Below w.heap.size w w2) ∧
    (rs = [] → Calls Tryz.prog 18 #[.agg #[.int .i64 r.y.at_, .slice r.y.A r.y.n r.y.c, .int .i64 r.o.at_, .slice r.o.A r.o.n r.o.c, .int .i64 r.size, .int .i64 r.mark, .slice r.F r.fm r.fc, .slice R' m' c', .slice r.H r.hm r.hc]] w fun e w2 => (∃ A c, e = .returned (.slice A 0 c)) ∧ Below w.heap.size w w2) := by
  have hd := dv_roots h hz
  have ha : ∀ f ∈ d.y :: d.o :: d.fs, f.ws.length ≤ 1000 := hs.all h
  have hf6 := hs.fm
  have hh : r.hm ≤ 1000 := by have := hs.hm; omega
  clear hs h hz
  refine ⟨fun hse => ?_, ?_, fun hrs => ?_⟩
  · refine (live_any hd hf6 ha hm).mono ?_
    rintro e w2 ⟨gs', l, hg, hR, rfl, hb⟩
    rcases hg with ⟨_, rfl⟩ | ⟨hn, _⟩
    · exact ⟨⟨l, hR, rfl⟩, hb⟩
    · exact absurd hse hn
  · exact why_any hd hf6 ha hm hh hS hsm
  · have hr : ({ d with roots := rs } : Dmp).roots = [] := hrs
    have q := handles_nil hd hf6 ha hr
    exact q
set_option maxRecDepth 100000 in
/-- A root of a right dump is read. -/
theorem read_root {w : World} {r : DR} {d : Dmp} (h : DV w r d) (hs : Sm r) {SA : Option Addr} {sm sc : Nat} {S : List Slt} (hS : SLs w SA sm sc S) (hsm : sm ≤ 1000) (hr : RtsOk (d.y :: d.o :: d.fs) S d.roots) (x : Int) (hx : Wd x) (hm : x ∈ d.roots) :
    Calls Tryz.prog 10 #[.agg #[.int .i64 r.y.at_, .slice r.y.A r.y.n r.y.c, .int .i64 r.o.at_, .slice r.o.A r.o.n r.o.c, .int .i64 r.size, .int .i64 r.mark, .slice r.F r.fm r.fc, .slice r.R r.rm r.rc, .slice r.H r.hm r.hc], .slice SA sm sc, .int .u64 x] w fun e w2 =>
      (∃ k n g A ln lc u s B m dd, e = .returned (.tuple #[.agg #[.int .i64 k, .int .i64 n, .bool g, .slice A ln lc, .int .u64 u, .string s, .slice B m dd], .bool true]) ∧ (k == 0) = false) ∧ Below w.heap.size w w2 := by
  refine (read_any h (by have := hs.fm; omega) (hs.all h) hS hsm x hx).mono ?_
  rintro e w2 ⟨⟨t, R, ht, _, rfl, tv, _⟩ | ⟨hno, _⟩, hb⟩
  · refine ⟨⟨R.k, R.n, R.g, R.A, R.ln, R.lc, R.u, R.s, R.B, R.m, R.d, rfl, ?_⟩, hb⟩
    rw [← tv.tv.kind]
    exact beq_eq_false_iff_ne.2 (rd_kind ht)
  · obtain ⟨t, ht, hw⟩ := hr x hm
    have := hno t ht
    omega
set_option maxRecDepth 100000 in
theorem own_zs {w : World} {B : Nat} {A : Option Addr} {n c : Nat} {zs : List Int} (h : w.ownsRow B 30 1 (.slice A n c) n (u64s zs)) (hl : zs.length = n) (hwf : ∀ x ∈ zs, (Lit.int .u64 x).wf = true) : Zs .u64 w A n c zs := by
  rcases h.2 with ⟨h0, h1⟩ | ⟨g, cap, cur, hv, hbg, hgg, hnc, hcm, hcs, htk⟩
  · injection h0 with e1 e2 e3
    subst e1 e2 e3
    have hzs : zs = [] := List.eq_nil_of_length_eq_zero hl
    subst hzs
    exact Zs.nil _ _
  · injection hv with e1 _ e3
    subst e1 e3
    refine ⟨hl, hnc, hcm, hwf, fun hn => ⟨g, 0, rfl, (Array.getElem?_eq_some_iff.1 hgg).1, fun j hj => ?_⟩⟩
    have h1 := World.ownsRow.cellAt h j (by omega)
    rw [Nat.zero_add, h1, u64s_get (by omega)]
set_option maxRecDepth 100000 in
theorem zs_pre {q : IntKind} {w : World} {A : Option Addr} {n c : Nat} {zs : List Int} {j : Nat} (h : Zs q w A n c zs) (hj : j ≤ n) : Zs q w A j c (zs.take j) := by
  refine ⟨by rw [List.length_take, h.len]; omega, Nat.le_trans hj h.nc, h.cm, fun z hz => h.wf z (List.mem_of_mem_take hz), fun h0 => ?_⟩
  obtain ⟨b, o, e, hlt, hc⟩ := h.el (by omega)
  refine ⟨b, o, e, hlt, fun i hi => ?_⟩
  rw [hc i (by omega), List.getD_eq_getElem?_getD, List.getD_eq_getElem?_getD, List.getElem?_take_of_lt hi]
set_option maxRecDepth 100000 in
theorem twice_prep {w : World} {A : Option Addr} {m c : Nat} {zs : List Int} (hz : Zs .u64 w A m c zs) (hm : m ≤ 1000) :
    ∃ A4 c4 w4 A6 c6 w6, (Builtin.append_ #[22, 22] 22 #[.slice none 0 0, .slice A m c]).run Tryz.prog w = .ok (.slice A4 m c4) w4 ∧
      (Builtin.append_ #[22, 22] 22 #[.slice A4 m c4, .slice A m c]).run Tryz.prog w4 = .ok (.slice A6 (m + m) c6) w6 ∧ Below w.heap.size w w4 ∧ Below w.heap.size w w6 ∧ Zs .u64 w6 A6 (m + m) c6 (zs ++ zs) := by
  obtain ⟨A4, c4, w4, h1, h2, h3⟩ := u64_app (zs := []) (World.ownsRow_nil w w.heap.size 30 1) hz (Nat.le_refl _) (by omega) 22
  rw [Nat.zero_add] at h1 h2
  rw [List.nil_append] at h2
  have b4 : Below w.heap.size w w4 := (Below.refl _ w).grown h3 (Nat.le_refl _) (fun k e => by cases e)
  obtain ⟨A6, c6, w6, k1, k2, k3⟩ := u64_app h2 (hz.below b4) b4.size (by omega) 22
  refine ⟨A4, c4, w4, A6, c6, w6, h1, k1, b4, b4.grown k3 b4.size (fun k e => (World.ownsRow.lt h2 k e).1), own_zs k2 (by rw [List.length_append, hz.len]) (fun x hx => ?_)⟩
  rcases List.mem_append.1 hx with hx | hx <;> exact hz.wf x hx
end Go.Proofs.YtejmmjedognaaaaGreat

namespace Go.Proofs.YtejmmjedognaaaaGreat
open Go.RowKit

/-- It ends with this frame and this world. -/
def Way (A : Act) (W : World) : Exit → Act → World → Prop
  | .normal, a, w => a = A ∧ w = W
  | _, _, _ => False
set_option maxRecDepth 100000 in
theorem region_way {P : Program} {c : Code} {Q : Exit → Act → World → Prop} {a : Act} {w : World} {A : Act} {W : World} (h1 : c.wp P (Way A W) a w) (h2 : Q .normal A W) : c.wp P Q a w :=
  Code.wp_mono (fun e a w h => by
    cases e with
    | normal => obtain ⟨rfl, rfl⟩ := h; exact h2
    | _ => exact h.elim) h1
end Go.Proofs.YtejmmjedognaaaaGreat

namespace Go.Proofs.YtejmmjedognaaaaGreat
open Go.RowKit

/-- The list of some terms. -/
def listT : List Tm → Tm
  | [] => tNil
  | t :: r => .mk 8 0 false [] 0 ⟨#[]⟩ [t, listT r]

set_option maxRecDepth 100000 in
theorem TVSs.lt {S : Nat → Prop} {w : World} {B : Option Addr} {m d : Nat} {ts : List Tm} (h : TVSs S w B m d ts) : TVSs (fun b => S b ∧ b < w.heap.size) w B m d ts := by
  obtain ⟨V, h1, h2⟩ := h.el
  exact ⟨h.len, h.md, h.dd, fun hm a e => ⟨h.on hm a e, h1.blk hm a e⟩, V, h1, fun i t e => (h2 i t e).lt⟩
set_option maxRecDepth 100000 in
theorem TVSs.get {S : Nat → Prop} {w : World} {B : Option Addr} {m d : Nat} {ts : List Tm} (h : TVSs S w B m d ts) (i : Nat) (hi : i < m) :
    ∃ b o r t, B = some ⟨b, o, none⟩ ∧ b < w.heap.size ∧ At7 w b (o + i * 7) r ∧ ts[i]? = some t ∧ TVS S w r t := by
  obtain ⟨V, h1, h2⟩ := h.el
  obtain ⟨b, o, e, hlt, hc⟩ := h1 (by omega)
  have hg : ts[i]? = some (ts[i]'(by rw [h.len]; exact hi)) := List.getElem?_eq_getElem (by rw [h.len]; exact hi)
  exact ⟨b, o, V i, _, e, hlt, hc i hi, hg, h2 i _ hg⟩

/-- What stands while a list is made: the result's variable, the list's, the heads. -/
structure LsI (w : World) (q : Nat) (B : Option Addr) (m d : Nat) (ts : List Tm) (R : TR) (t : Tm) (W : World) : Prop where
  bp : Box7 W w.heap.size zeroR
  bq : Box7 W q R
  pq : w.heap.size < q
  tv : TVS (fun b => b ≠ q ∧ w.heap.size < b) W R t
  hd : TVSs (fun b => b ≠ q ∧ w.heap.size < b) W B m d ts
  be : Below w.heap.size w W
set_option maxRecDepth 100000 in
theorem LsI.below {w : World} {q : Nat} {B : Option Addr} {m d : Nat} {ts : List Tm} {R : TR} {t : Tm} {W W' : World} (h : LsI w q B m d ts R t W) (hb : Below W.heap.size W W') : LsI w q B m d ts R t W' :=
  ⟨h.bp.below hb, h.bq.below hb, h.pq, h.tv.keep (hb.keeps _), h.hd.keep (hb.keeps _), h.be.trans (hb.mono h.be.size)⟩
set_option maxRecDepth 100000 in
/-- One more head. -/
theorem LsI.push {w : World} {q : Nat} {B : Option Addr} {m d : Nat} {ts : List Tm} {R : TR} {t : Tm} {W : World} (h : LsI w q B m d ts R t W) {r' : TR} {t' : Tm} (h' : TVS (fun b => b ≠ q ∧ w.heap.size < b) W r' t') :
    LsI w q B m d ts (mkR 8 0 0 ⟨#[]⟩ (some ⟨W.heap.size, 0, none⟩) 2 2) (.mk 8 0 false [] 0 ⟨#[]⟩ [t', t])
      ((put7 W q (mkR 8 0 0 ⟨#[]⟩ (some ⟨W.heap.size, 0, none⟩) 2 2)).alloc (.cells #[.int .i64 r'.k, .int .i64 r'.n, .bool r'.g, .slice r'.A r'.ln r'.lc, .int .u64 r'.u, .string r'.s, .slice r'.B r'.m r'.d, .int .i64 R.k, .int .i64 R.n, .bool R.g, .slice R.A R.ln R.lc, .int .u64 R.u, .string R.s, .slice R.B R.m R.d] 40)) := by
  have hpq := h.pq
  have hlt := h.bq.lt
  have hlp := h.bp.lt
  have kp := (Keeps.refl (fun b => b ≠ q ∧ w.heap.size < b) W).put7 (g := q) (by simp) (mkR 8 0 0 ⟨#[]⟩ (some ⟨W.heap.size, 0, none⟩) 2 2)
  have hsz := put7_size W q (mkR 8 0 0 ⟨#[]⟩ (some ⟨W.heap.size, 0, none⟩) 2 2)
  have T := TVSs.two (h'.keep kp) (h.tv.keep kp) (by rw [hsz]; exact ⟨by omega, by omega⟩)
  rw [hsz] at T
  have N := TVS.node (k := 8) (n := 0) (u := 0) (s := ⟨#[]⟩) T (by omega) (by omega) (by omega) (by omega) (by omega) (by omega) (by decide)
  exact ⟨(h.bp.put' (by omega) _).below ((Below.refl _ _).alloc (Nat.le_refl _) _), (h.bq.put _).below ((Below.refl _ _).alloc (Nat.le_refl _) _), h.pq, N, h.hd.keep (kp.alloc _), (h.be.put7 (by omega) _).alloc (by rw [hsz]; omega) _⟩

end Go.Proofs.YtejmmjedognaaaaGreat

namespace Go.Proofs.YtejmmjedognaaaaGreat
open Go.RowKit

def tOne : Tm := .mk 1 1 false [] 0 ⟨#[]⟩ []
def tAll : Tm := .mk 3 0 false [] 18446744073709551615 ⟨#[]⟩ []
def tList1 : Tm := .mk 8 0 false [] 0 ⟨#[]⟩ [tOne, tNil]
set_option maxRecDepth 100000 in
theorem intT_one : intT 1 = tOne := intT_small (by have := Lm.top_ge; omega) (by decide)
set_option maxRecDepth 100000 in
theorem listT_one : listT [tOne] = tList1 := rfl
set_option maxRecDepth 100000 in
theorem tList1_ok : tList1.Ok := by simp [tList1, tOne, tNil, Tm.Ok, Tm.Oks, ByteArray.size]
set_option maxRecDepth 100000 in
theorem tOne_ok : tOne.Ok := by simp [tOne, Tm.Ok, Tm.Oks, ByteArray.size]
set_option maxRecDepth 100000 in
theorem tNil_ok : tNil.Ok := by simp [tNil, Tm.Ok, Tm.Oks, ByteArray.size]
set_option maxRecDepth 100000 in
theorem tAll_ok : tAll.Ok := by simp [tAll, Tm.Ok, Tm.Oks, ByteArray.size]
set_option maxRecDepth 100000 in
theorem tNil_cap : tNil.cap = 1 := by simp [Tm.cap, tNil, Tm.wt]
set_option maxRecDepth 100000 in
theorem tList1_may : tList1.mayB = true := by
  have h1 : tList1.cap = 3 := by simp [Tm.cap, tList1, tOne, tNil, Tm.wt, Tm.wts]
  have h2 : tList1.formB = true := by simp [tList1, tOne, tNil, Tm.formB, Tm.formsB, Tm.alikeB, Tm.ment, Tm.boundB, Tm.kind, Tm.num, Tm.args, Tm.mag, Tm.neg, Tm.bits, Tm.bytes]
  rw [Tm.mayB, h1, h2]; rfl
set_option maxRecDepth 100000 in
theorem tAll_may : tAll.mayB = false := by
  have h2 : tAll.formB = false := by
    have : (cleanI 18446744073709551615 == 18446744073709551615) = false := by decide
    simp [tAll, Tm.formB, Tm.formsB, Tm.boundB, Tm.kind, Tm.bits]
    intro _ h
    rw [h] at this
    simp at this
  rw [Tm.mayB, h2]; simp
set_option maxRecDepth 100000 in
theorem intT_top : (intT 1152921504606846976).kind = 2 := by
  rw [intT_big (by have := Lm.top_ge; omega) (by decide)]; rfl

set_option maxRecDepth 100000 in
theorem field_kind (R : TR) (w : World) : (Instr.field 40 (.agg #[.int .i64 R.k, .int .i64 R.n, .bool R.g, .slice R.A R.ln R.lc, .int .u64 R.u, .string R.s, .slice R.B R.m R.d]) 0).run Tryz.prog w = .ok (.int .i64 R.k) w := by kernel_rfl

end Go.Proofs.YtejmmjedognaaaaGreat

namespace Go.Proofs.YtejmmjedognaaaaGreat
open Go.RowKit

set_option maxRecDepth 100000 in
theorem twoS {W v : World} {b o b' o' : Nat} {ra rb : TR} (hv : Below W.heap.size W v)
    (h : At7 W b o ra) (hlt : b < W.heap.size) (h' : At7 W b' o' rb) (hlt' : b' < W.heap.size) : v.cell? ⟨b, o, none⟩ = some (.int .i64 ra.k) ∧ v.cell? ⟨b, o + 1, none⟩ = some (.int .i64 ra.n) ∧ v.cell? ⟨b, o + 2, none⟩ = some (.bool ra.g) ∧ v.cell? ⟨b, o + 3, none⟩ = some (.slice ra.A ra.ln ra.lc) ∧ v.cell? ⟨b, o + 4, none⟩ = some (.int .u64 ra.u) ∧ v.cell? ⟨b, o + 5, none⟩ = some (.string ra.s) ∧ v.cell? ⟨b, o + 6, none⟩ = some (.slice ra.B ra.m ra.d) ∧ v.cell? ⟨b', o', none⟩ = some (.int .i64 rb.k) ∧ v.cell? ⟨b', o' + 1, none⟩ = some (.int .i64 rb.n) ∧ v.cell? ⟨b', o' + 2, none⟩ = some (.bool rb.g) ∧ v.cell? ⟨b', o' + 3, none⟩ = some (.slice rb.A rb.ln rb.lc) ∧ v.cell? ⟨b', o' + 4, none⟩ = some (.int .u64 rb.u) ∧ v.cell? ⟨b', o' + 5, none⟩ = some (.string rb.s) ∧ v.cell? ⟨b', o' + 6, none⟩ = some (.slice rb.B rb.m rb.d) :=
  seven (h.below hv hlt) (seven' (h'.below hv hlt'))

set_option maxRecDepth 100000 in
set_option maxRecDepth 100000 in
set_option maxHeartbeats 4000000 in
theorem sameTerms_of (ts : List Tm) (ih : ∀ t ∈ ts, ∀ (w : World) (r r' : TR), TV w r t → TV w r' t → Calls Tryz.prog 13 #[.agg #[.int .i64 r.k, .int .i64 r.n, .bool r.g, .slice r.A r.ln r.lc, .int .u64 r.u, .string r.s, .slice r.B r.m r.d], .agg #[.int .i64 r'.k, .int .i64 r'.n, .bool r'.g, .slice r'.A r'.ln r'.lc, .int .u64 r'.u, .string r'.s, .slice r'.B r'.m r'.d]] w fun e w' => e = .returned (.bool true) ∧ Below w.heap.size w w')
    (w : World) (B : Option Addr) (m d : Nat) (hts : TVs w B m d ts) (B' : Option Addr) (d' : Nat) (hts' : TVs w B' m d' ts) :
    Calls Tryz.prog 35 #[.slice B m d, .slice B' m d'] w fun e w' => e = .returned (.bool true) ∧ Below w.heap.size w w' := by
  have IH := Lib.hid ih
  clear ih
  have hml : m ≤ maxLen := Nat.le_trans hts.md hts.dd
  have hml' : (m : Int) ≤ 9223372036854775807 := by unfold maxLen at hml; omega
  go_enter Tryz.func35, Tryz.ntmps35
  go_wp2_with fail
  go_loopw [5] (fun i w' => ∃ j : Nat, j ≤ m ∧ i = .int .i64 (j : Int) ∧ Below w.heap.size w w') (fun i _ => m - (intOf i).toNat)
  case atStart => exact ⟨0, Nat.zero_le _, rfl, Below.refl _ _⟩
  case round =>
    obtain ⟨j, hj, rfl, hb⟩ := hrel
    by_cases hjm : j < m
    · have hd1 : decide ((j : Int) < (m : Int)) = true := by rw [decide_eq_true_iff]; omega
      obtain ⟨b, o, ra, t, e, hlt, h7, het, htv⟩ := (hts.below hb).get j hjm
      obtain ⟨b', o', rb, t', e', hlt', h7', het', htv'⟩ := (hts'.below hb).get j hjm
      rw [het] at het'
      cases het'
      subst e e'
      have hmem := List.mem_of_getElem? het
      have d0 := h7.c0; have d1 := h7.c1; have d2 := h7.c2; have d3 := h7.c3; have d4 := h7.c4; have d5 := h7.c5; have d6 := h7.c6; have c0 := h7'.c0; have c1 := h7'.c1; have c2 := h7'.c2; have c3 := h7'.c3; have c4 := h7'.c4; have c5 := h7'.c5; have c6 := h7'.c6
      have H7 := Lib.hid h7
      have H7' := Lib.hid h7'
      have HT := Lib.hid htv
      have HT' := Lib.hid htv'
      have IA := Lib.hid (IH.out t hmem)
      clear h7 h7' htv htv'
      go_wp2_with fail
      go_region_held3 (fun w' => w'.cell? ⟨b, o + j * 7, none⟩ = some (.int .i64 ra.k) ∧ w'.cell? ⟨b, o + j * 7 + 1, none⟩ = some (.int .i64 ra.n) ∧ w'.cell? ⟨b, o + j * 7 + 2, none⟩ = some (.bool ra.g) ∧ w'.cell? ⟨b, o + j * 7 + 3, none⟩ = some (.slice ra.A ra.ln ra.lc) ∧ w'.cell? ⟨b, o + j * 7 + 4, none⟩ = some (.int .u64 ra.u) ∧ w'.cell? ⟨b, o + j * 7 + 5, none⟩ = some (.string ra.s) ∧ w'.cell? ⟨b, o + j * 7 + 6, none⟩ = some (.slice ra.B ra.m ra.d) ∧ w'.cell? ⟨b', o' + j * 7, none⟩ = some (.int .i64 rb.k) ∧ w'.cell? ⟨b', o' + j * 7 + 1, none⟩ = some (.int .i64 rb.n) ∧ w'.cell? ⟨b', o' + j * 7 + 2, none⟩ = some (.bool rb.g) ∧ w'.cell? ⟨b', o' + j * 7 + 3, none⟩ = some (.slice rb.A rb.ln rb.lc) ∧ w'.cell? ⟨b', o' + j * 7 + 4, none⟩ = some (.int .u64 rb.u) ∧ w'.cell? ⟨b', o' + j * 7 + 5, none⟩ = some (.string rb.s) ∧ w'.cell? ⟨b', o' + j * 7 + 6, none⟩ = some (.slice rb.B rb.m rb.d))
        (first | exact ⟨d0, d1, d2, d3, d4, d5, d6, c0, c1, c2, c3, c4, c5, c6⟩ | exact KS.out)
        (first
          | (go_at_call 13; refine (IA.out wr.drew ra rb (by exact HT.out.bel (Below.refl _ _).drew) (by exact HT'.out.bel (Below.refl _ _).drew)).mono ?_; rintro e v ⟨rfl, hv⟩; have KS := Lib.hid (twoS (W := wr.drew) hv (H7.out.below (Below.refl _ _).drew hlt) hlt (H7'.out.below (Below.refl _ _).drew hlt') hlt'); have hB := Lib.hid ((hb.drew).trans (hv.mono hb.size)); clear hv))
      clear d0 d1 d2 d3 d4 d5 d6 c0 c1 c2 c3 c4 c5 c6
      go_wp2_with fail
      go_roundw
      case rel => exact ⟨j + 1, by omega, by go_num, hB.out⟩
      case measure => simp [intOf]; omega
    · have hd1 : decide ((j : Int) < (m : Int)) = false := by rw [decide_eq_false_iff_not]; omega
      go_wp2
      go_ret
      exact ⟨rfl, hb⟩

set_option maxRecDepth 100000 in
set_option maxRecDepth 100000 in
set_option maxHeartbeats 4000000 in
theorem sameTerm_raw (w : World) (k n : Int) (g : Bool) (A : Option Addr) (ln lc : Nat) (u : Int) (s : ByteArray) (B : Option Addr) (m d : Nat) (A' : Option Addr) (lc' : Nat) (B' : Option Addr) (d' : Nat) (l : List Nat) (ts : List Tm)
    (ih : ∀ t ∈ ts, ∀ (w : World) (r r' : TR), TV w r t → TV w r' t → Calls Tryz.prog 13 #[.agg #[.int .i64 r.k, .int .i64 r.n, .bool r.g, .slice r.A r.ln r.lc, .int .u64 r.u, .string r.s, .slice r.B r.m r.d], .agg #[.int .i64 r'.k, .int .i64 r'.n, .bool r'.g, .slice r'.A r'.ln r'.lc, .int .u64 r'.u, .string r'.s, .slice r'.B r'.m r'.d]] w fun e w' => e = .returned (.bool true) ∧ Below w.heap.size w w')
    (hl : Lim w A ln lc l) (hc : lc ≤ maxLen) (hl' : Lim w A' ln lc' l) (hc' : lc' ≤ maxLen) (hts : TVs w B m d ts) (hts' : TVs w B' m d' ts) :
    Calls Tryz.prog 13 #[.agg #[.int .i64 k, .int .i64 n, .bool g, .slice A ln lc, .int .u64 u, .string s, .slice B m d], .agg #[.int .i64 k, .int .i64 n, .bool g, .slice A' ln lc', .int .u64 u, .string s, .slice B' m d']] w fun e w' => e = .returned (.bool true) ∧ Below w.heap.size w w' := by
  have IH := Lib.hid ih
  clear ih
  have hb0 := ((Below.refl w.heap.size w).alloc (Nat.le_refl _) (.cells #[.int .i64 (TR.mk k n g A ln lc u s B m d).k, .int .i64 (TR.mk k n g A ln lc u s B m d).n, .bool (TR.mk k n g A ln lc u s B m d).g, .slice (TR.mk k n g A ln lc u s B m d).A (TR.mk k n g A ln lc u s B m d).ln (TR.mk k n g A ln lc u s B m d).lc, .int .u64 (TR.mk k n g A ln lc u s B m d).u, .string (TR.mk k n g A ln lc u s B m d).s, .slice (TR.mk k n g A ln lc u s B m d).B (TR.mk k n g A ln lc u s B m d).m (TR.mk k n g A ln lc u s B m d).d] 40)).alloc (by simp) (.cells #[.int .i64 (TR.mk k n g A' ln lc' u s B' m d').k, .int .i64 (TR.mk k n g A' ln lc' u s B' m d').n, .bool (TR.mk k n g A' ln lc' u s B' m d').g, .slice (TR.mk k n g A' ln lc' u s B' m d').A (TR.mk k n g A' ln lc' u s B' m d').ln (TR.mk k n g A' ln lc' u s B' m d').lc, .int .u64 (TR.mk k n g A' ln lc' u s B' m d').u, .string (TR.mk k n g A' ln lc' u s B' m d').s, .slice (TR.mk k n g A' ln lc' u s B' m d').B (TR.mk k n g A' ln lc' u s B' m d').m (TR.mk k n g A' ln lc' u s B' m d').d] 40)
  have hx := (Box7.new w (TR.mk k n g A ln lc u s B m d)).below ((Below.refl _ _).alloc (Nat.le_refl _) (.cells #[.int .i64 (TR.mk k n g A' ln lc' u s B' m d').k, .int .i64 (TR.mk k n g A' ln lc' u s B' m d').n, .bool (TR.mk k n g A' ln lc' u s B' m d').g, .slice (TR.mk k n g A' ln lc' u s B' m d').A (TR.mk k n g A' ln lc' u s B' m d').ln (TR.mk k n g A' ln lc' u s B' m d').lc, .int .u64 (TR.mk k n g A' ln lc' u s B' m d').u, .string (TR.mk k n g A' ln lc' u s B' m d').s, .slice (TR.mk k n g A' ln lc' u s B' m d').B (TR.mk k n g A' ln lc' u s B' m d').m (TR.mk k n g A' ln lc' u s B' m d').d] 40))
  have hy := Box7.new (w.alloc (.cells #[.int .i64 (TR.mk k n g A ln lc u s B m d).k, .int .i64 (TR.mk k n g A ln lc u s B m d).n, .bool (TR.mk k n g A ln lc u s B m d).g, .slice (TR.mk k n g A ln lc u s B m d).A (TR.mk k n g A ln lc u s B m d).ln (TR.mk k n g A ln lc u s B m d).lc, .int .u64 (TR.mk k n g A ln lc u s B m d).u, .string (TR.mk k n g A ln lc u s B m d).s, .slice (TR.mk k n g A ln lc u s B m d).B (TR.mk k n g A ln lc u s B m d).m (TR.mk k n g A ln lc u s B m d).d] 40)) (TR.mk k n g A' ln lc' u s B' m d')
  rw [World.size_alloc] at hy
  have hl0 := hl.below hb0
  have hl0' := hl'.below hb0
  have t0 := hts.below hb0
  have t0' := hts'.below hb0
  clear hl hl' hts hts'
  go_enter Tryz.func13, Tryz.ntmps13
  go_wp2_with fail
  generalize (w.alloc (.cells #[.int .i64 (TR.mk k n g A ln lc u s B m d).k, .int .i64 (TR.mk k n g A ln lc u s B m d).n, .bool (TR.mk k n g A ln lc u s B m d).g, .slice (TR.mk k n g A ln lc u s B m d).A (TR.mk k n g A ln lc u s B m d).ln (TR.mk k n g A ln lc u s B m d).lc, .int .u64 (TR.mk k n g A ln lc u s B m d).u, .string (TR.mk k n g A ln lc u s B m d).s, .slice (TR.mk k n g A ln lc u s B m d).B (TR.mk k n g A ln lc u s B m d).m (TR.mk k n g A ln lc u s B m d).d] 40)).alloc (.cells #[.int .i64 (TR.mk k n g A' ln lc' u s B' m d').k, .int .i64 (TR.mk k n g A' ln lc' u s B' m d').n, .bool (TR.mk k n g A' ln lc' u s B' m d').g, .slice (TR.mk k n g A' ln lc' u s B' m d').A (TR.mk k n g A' ln lc' u s B' m d').ln (TR.mk k n g A' ln lc' u s B' m d').lc, .int .u64 (TR.mk k n g A' ln lc' u s B' m d').u, .string (TR.mk k n g A' ln lc' u s B' m d').s, .slice (TR.mk k n g A' ln lc' u s B' m d').B (TR.mk k n g A' ln lc' u s B' m d').m (TR.mk k n g A' ln lc' u s B' m d').d] 40) = W at *
  refine (sameNum_any W g g A A' ln lc ln lc' l l hl0 hc hl0' hc').mono ?_
  rw [show sameB g g l l = true by simp [sameB]]
  rintro e w1 ⟨rfl, hb1⟩
  have hx1 := hx.below hb1
  have hy1 := hy.below hb1
  have y0 := hx1.at.c0; have y1 := hx1.at.c1; have y2 := hx1.at.c2; have y3 := hx1.at.c3; have y4 := hx1.at.c4; have y5 := hx1.at.c5; have y6 := hx1.at.c6; have x0 := hy1.at.c0; have x1 := hy1.at.c1; have x2 := hy1.at.c2; have x3 := hy1.at.c3; have x4 := hy1.at.c4; have x5 := hy1.at.c5; have x6 := hy1.at.c6
  go_wp2_with fail
  refine (sameTerms_of ts IH.out w1 B m d (t0.below hb1) B' d' (t0'.below hb1)).mono ?_
  rintro e w2 ⟨rfl, hb2⟩
  have b1 := hb0.trans (hb1.mono hb0.size)
  go_wp2
  go_ret
  exact ⟨rfl, b1.trans (hb2.mono b1.size)⟩
set_option maxRecDepth 100000 in
theorem sameTerm_eq (t : Tm) : ∀ (w : World) (r r' : TR), TV w r t → TV w r' t → Calls Tryz.prog 13 #[.agg #[.int .i64 r.k, .int .i64 r.n, .bool r.g, .slice r.A r.ln r.lc, .int .u64 r.u, .string r.s, .slice r.B r.m r.d], .agg #[.int .i64 r'.k, .int .i64 r'.n, .bool r'.g, .slice r'.A r'.ln r'.lc, .int .u64 r'.u, .string r'.s, .slice r'.B r'.m r'.d]] w fun e w' => e = .returned (.bool true) ∧ Below w.heap.size w w' := by
  induction t using Tm.ind with
  | h k n g l u s ks ih =>
    intro w r r' h h'
    have hks : (Tm.mk k n g l u s ks).args = ks := rfl
    rw [← hks] at ih
    generalize Tm.mk k n g l u s ks = t at *
    have e1 := h.kind.symm.trans h'.kind
    have e2 := h.num.symm.trans h'.num
    have e3 := h.neg.symm.trans h'.neg
    have e4 := h.bits.symm.trans h'.bits
    have e5 := h.bytes.symm.trans h'.bytes
    have e6 := h.len.symm.trans h'.len
    have e7 := h.magLen.symm.trans h'.magLen
    have h1 := h.flat.lim
    have h2 := h.flat.cap
    have h3 := h'.flat.lim
    have h4 := h'.flat.cap
    have h5 := h.args
    have h6 := h'.args
    rw [← e1, ← e2, ← e3, ← e4, ← e5, ← e6, ← e7]
    rw [← e7] at h3
    rw [← e6] at h6
    exact sameTerm_raw w r.k r.n r.g r.A r.ln r.lc r.u r.s r.B r.m r.d r'.A r'.lc r'.B r'.d t.mag t.args ih h1 h2 h3 h4 h5 h6
end Go.Proofs.YtejmmjedognaaaaGreat

namespace Go.Proofs.YtejmmjedognaaaaGreat
open Go.RowKit Go.Shelf
open St

set_option maxRecDepth 100000 in
set_option maxRecDepth 100000 in
set_option maxHeartbeats 2000000 in
theorem moved_any (x b : Int) (hx : Wd x) (hb : 0 ≤ b ∧ b ≤ 1000) (W : World) : Calls Tryz.prog 24 #[.int .u64 x, .int .i64 b] W fun e W' => e = .returned (.int .u64 (mvZ b x)) ∧ W = W' := by
  have HX := Lib.hid hx
  by_cases ht : x % 8 = 4 ∨ x % 8 = 5
  · by_cases hl : ldZ x ≤ 1125899906842624
    · have E : Hid (mvZ b x = x + b * 8) := Lib.hid (by unfold mvZ; rw [if_pos ⟨ht, hl⟩])
      have hd2 : decide (1125899906842624 < ldZ x) = false := decide_eq_false (by omega)
      have e0 : ldZ x = x / 8 := by unfold ldZ; rw [if_neg (by omega)]
      have W1 : Hid (IntKind.u64.wrap (x + IntKind.u64.wrap (IntKind.u64.wrap b * 8)) = x + b * 8) := Lib.hid (by
        rw [IntKind.wrap_u64, IntKind.wrap_u64, IntKind.wrap_u64]
        rw [e0] at hl
        unfold Wd at hx
        omega)
      rcases ht with h | h
      · have hd3 : (x % 8 != 4) = false := by simp [h]
        clear hd3; have hd3 : (x % 8 != 4) = false := by simp [h]
        clear e0 hl hx hb
        go_enter Tryz.func24, Tryz.ntmps24
        go_wp2_with (first
        | (go_at_call 49; (with_reducible refine (refTag_any x HX.out _).mono ?_); rintro e w1 ⟨rfl, rfl⟩)
        | (go_at_call 50; (with_reducible refine (refLoad_any x HX.out _).mono ?_); rintro e w1 ⟨rfl, rfl⟩))
        go_ret
        exact ⟨by rw [E.out, ← W1.out]; rfl, rfl⟩
      · have hd3 : (x % 8 != 5) = false := by simp [h]
        have hd4 : (x % 8 != 4) = true := by simp [h]
        clear e0 hl hx hb
        go_enter Tryz.func24, Tryz.ntmps24
        go_wp2_with (first
        | (go_at_call 49; (with_reducible refine (refTag_any x HX.out _).mono ?_); rintro e w1 ⟨rfl, rfl⟩)
        | (go_at_call 50; (with_reducible refine (refLoad_any x HX.out _).mono ?_); rintro e w1 ⟨rfl, rfl⟩))
        go_ret
        exact ⟨by rw [E.out, ← W1.out]; rfl, rfl⟩
    · have E : Hid (mvZ b x = x) := Lib.hid (by unfold mvZ; rw [if_neg (fun e => hl e.2)])
      have hd2 : decide (1125899906842624 < ldZ x) = true := decide_eq_true (by omega)
      rcases ht with h | h
      · have hd3 : (x % 8 != 4) = false := by simp [h]
        clear hl hx hb
        go_enter Tryz.func24, Tryz.ntmps24
        go_wp2_with (first
        | (go_at_call 49; (with_reducible refine (refTag_any x HX.out _).mono ?_); rintro e w1 ⟨rfl, rfl⟩)
        | (go_at_call 50; (with_reducible refine (refLoad_any x HX.out _).mono ?_); rintro e w1 ⟨rfl, rfl⟩))
        go_ret
        exact ⟨by rw [E.out]; rfl, rfl⟩
      · have hd3 : (x % 8 != 5) = false := by simp [h]
        have hd4 : (x % 8 != 4) = true := by simp [h]
        clear hl hx hb
        go_enter Tryz.func24, Tryz.ntmps24
        go_wp2_with (first
        | (go_at_call 49; (with_reducible refine (refTag_any x HX.out _).mono ?_); rintro e w1 ⟨rfl, rfl⟩)
        | (go_at_call 50; (with_reducible refine (refLoad_any x HX.out _).mono ?_); rintro e w1 ⟨rfl, rfl⟩))
        go_ret
        exact ⟨by rw [E.out]; rfl, rfl⟩
  · have E : Hid (mvZ b x = x) := Lib.hid (by unfold mvZ; rw [if_neg (fun e => ht e.1)])
    have hd3 : (x % 8 != 5) = true := bne_iff_ne.2 (fun e => ht (.inr e))
    have hd4 : (x % 8 != 4) = true := bne_iff_ne.2 (fun e => ht (.inl e))
    clear ht hx hb
    go_enter Tryz.func24, Tryz.ntmps24
    go_wp2_with (first
        | (go_at_call 49; (with_reducible refine (refTag_any x HX.out _).mono ?_); rintro e w1 ⟨rfl, rfl⟩)
        | (go_at_call 50; (with_reducible refine (refLoad_any x HX.out _).mono ?_); rintro e w1 ⟨rfl, rfl⟩))
    go_ret
    exact ⟨by rw [E.out]; rfl, rfl⟩
end Go.Proofs.YtejmmjedognaaaaGreat
