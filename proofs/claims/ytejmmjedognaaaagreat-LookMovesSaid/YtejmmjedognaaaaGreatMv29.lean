/-
  PACKAGE look: slotOf.
  PACKAGE look: text.
  PACKAGE look: text of a HeadSub; text; leaf.
-/
import Derived.Test.YtejmmjedognaaaaGreatMv24
import Derived.Test.YtejmmjedognaaaaGreatMv27
namespace Go.Proofs.YtejmmjedognaaaaGreat
open Go.RowKit
open St

/-- A slot in a variable. -/
structure Sb (w : World) (D : Nat) (s : Slt) : Prop where
  blk : w.heap[D]? = some (.cells #[.int .i64 s.st, .int .i64 s.ct, .string s.tx] 61 (0, 0))
namespace Sb
variable {w w' : World} {D : Nat} {s : Slt}
set_option maxRecDepth 100000 in
theorem lt (h : Sb w D s) : D < w.heap.size := (Array.getElem?_eq_some_iff.1 h.blk).1
set_option maxRecDepth 100000 in
theorem below (h : Sb w D s) {B : Nat} (hb : Below B w w') (hB : D < B) : Sb w' D s := ⟨(hb.block D hB).trans h.blk⟩
set_option maxRecDepth 100000 in
theorem c0 (h : Sb w D s) : w.cell? ⟨D, 0, none⟩ = some (.int .i64 s.st) := (cell_of_row w D 0 _ _ (0, 0) h.blk).trans rfl
set_option maxRecDepth 100000 in
theorem c1 (h : Sb w D s) : w.cell? ⟨D, 1, none⟩ = some (.int .i64 s.ct) := (cell_of_row w D 1 _ _ (0, 0) h.blk).trans rfl
set_option maxRecDepth 100000 in
theorem c2 (h : Sb w D s) : w.cell? ⟨D, 2, none⟩ = some (.string s.tx) := (cell_of_row w D 2 _ _ (0, 0) h.blk).trans rfl
set_option maxRecDepth 100000 in
theorem fz (h : Sb w D s) (i : Nat) : w.frozen? ⟨D, i, none⟩ = false := frozen_of_row w D i _ _ h.blk
set_option maxRecDepth 100000 in
theorem set (h : Sb w D s) (t : Slt) : Sb (((w.setCell ⟨D, 0, none⟩ (.int .i64 t.st)).setCell ⟨D, 1, none⟩ (.int .i64 t.ct)).setCell ⟨D, 2, none⟩ (.string t.tx)) D t := by
  have h1 : (w.setCell ⟨D, 0, none⟩ (.int .i64 t.st)).heap[D]? = some (.cells #[.int .i64 t.st, .int .i64 s.ct, .string s.tx] 61 (0, 0)) := by rw [heap_setCell_same w D 0 _ _ _ h.blk]; simp
  have h2 : ((w.setCell ⟨D, 0, none⟩ (.int .i64 t.st)).setCell ⟨D, 1, none⟩ (.int .i64 t.ct)).heap[D]? = some (.cells #[.int .i64 t.st, .int .i64 t.ct, .string s.tx] 61 (0, 0)) := by rw [heap_setCell_same _ D 1 _ _ _ h1]; simp
  exact ⟨by rw [heap_setCell_same _ D 2 _ _ _ h2]; simp⟩
end Sb
set_option maxRecDepth 100000 in
theorem below_set3 {B : Nat} {a w : World} (h : Below B a w) {D : Nat} (hD : B ≤ D) (u v x : Value) : Below B a (((w.setCell ⟨D, 0, none⟩ u).setCell ⟨D, 1, none⟩ v).setCell ⟨D, 2, none⟩ x) := ((h.setCell (p := ⟨D, 0, none⟩) hD u).setCell (p := ⟨D, 1, none⟩) hD v).setCell (p := ⟨D, 2, none⟩) hD x

/-- The slot that three words denote. -/
def slO (S : List Slt) (ws : List Int) : Option Slt :=
  if (S.length : Int) ≤ ws.getD 0 0 ∨ (gt S (ws.getD 0 0).toNat).ct = 0 ∨ (gt S (ws.getD 0 0).toNat).st ≠ ws.getD 1 0 ∨ ((gt S (ws.getD 0 0).toNat).tx.size : Int) ≠ ws.getD 2 0 then none else some (gt S (ws.getD 0 0).toNat)
def SlP (w : World) (o : Option Slt) (e : Ending) (w' : World) : Prop :=
  e = .returned (.tuple #[.agg #[.int .i64 (o.getD Slt.zero).st, .int .i64 (o.getD Slt.zero).ct, .string (o.getD Slt.zero).tx], .bool o.isSome]) ∧ Below w.heap.size w w'

set_option maxRecDepth 100000 in
set_option maxRecDepth 100000 in
set_option maxHeartbeats 8000000 in
theorem slotOf_any {w : World} {SA : Option Addr} {sm sc : Nat} {S : List Slt} {A : Option Addr} {c : Nat} {ws : List Int} (hS : SLs w SA sm sc S) (hsm : sm ≤ 1000) (h : Zs .u64 w A 3 c ws) (k : Int) (h1 : ws.getD 1 0 ≤ 1073741824) (h2 : ws.getD 2 0 ≤ 400) :
    Calls Tryz.prog 99 #[.slice SA sm sc, .agg #[.int .i64 k, .slice A 3 c]] w (SlP w (slO S ws)) := by
  obtain ⟨wa, hwa⟩ : ∃ wa, wa = w.alloc (.cells #[.int .i64 k, .slice A 3 c] 93) := ⟨_, rfl⟩
  obtain ⟨wb, hwb⟩ : ∃ wb, wb = wa.alloc (.cells #[.int .i64 0, .int .i64 0, .string ⟨#[]⟩] 61) := ⟨_, rfl⟩
  have hs1 : wa.heap.size = w.heap.size + 1 := by rw [hwa]; simp
  have hba : Below w.heap.size w wa := by rw [hwa]; exact (Below.refl _ w).alloc (Nat.le_refl _) _
  have hbb0 : Below wa.heap.size wa wb := by rw [hwb]; exact (Below.refl _ wa).alloc (Nat.le_refl _) _
  have ob : Ob wb w.heap.size k A 3 c := by
    refine Ob.below ?_ hbb0 (by omega)
    rw [hwa]; exact Ob.new _ _ _ _ _
  have sb : Sb wb (w.heap.size + 1) Slt.zero := ⟨by rw [← hs1, hwb]; exact heap_alloc_new wa _⟩
  have hbb := hba.trans (hbb0.mono hba.size)
  have hsz : wb.heap.size = w.heap.size + 2 := by rw [hwb]; simp; omega
  have hz := h.below hbb
  have hSb := hS.below hbb
  obtain ⟨b, o, hA, _⟩ := hz.some (by omega)
  subst hA
  have hl := hS.len
  have hx0 := wf_u (hz.wfAt (j := 0) (by omega))
  have hx1 := wf_u (hz.wfAt (j := 1) (by omega))
  have hx2 := wf_u (hz.wfAt (j := 2) (by omega))
  have KV : Hid (∀ w', Below wb.heap.size wb w' → (w'.cell? ⟨b, o, none⟩ = some (.int .u64 (ws.getD 0 0)) ∧ w'.cell? ⟨b, o + 1, none⟩ = some (.int .u64 (ws.getD 1 0)) ∧ w'.cell? ⟨b, o + 2, none⟩ = some (.int .u64 (ws.getD 2 0))) ∧ Ob w' w.heap.size k (some ⟨b, o, none⟩) 3 c ∧ Sb w' (w.heap.size + 1) Slt.zero) := Lib.hid (fun w' hb =>
    ⟨⟨by simpa using (hz.below hb).at_ (j := 0) (by omega), (hz.below hb).at_ (j := 1) (by omega), (hz.below hb).at_ (j := 2) (by omega)⟩, ob.below hb ob.lt, sb.below hb sb.lt⟩)
  obtain ⟨⟨y0, y1, y2⟩, _, _⟩ := KV.out wb (Below.refl _ _)
  have HB := Lib.hid hbb
  have HSb := Lib.hid hSb
  have HO := Lib.hid (And.intro ob sb)
  clear h hS hz hSb hba hbb0 hbb ob sb
  obtain ⟨res, hres⟩ : ∃ res, res = slO S ws := ⟨_, rfl⟩
  rw [← hres]
  unfold slO at hres
  rw [hl] at hres
  generalize ws.getD 0 0 = x0 at *
  generalize ws.getD 1 0 = x1 at *
  generalize ws.getD 2 0 = x2 at *
  go_enter Tryz.func99, Tryz.ntmps99
  go_upto_region 1 with fail
  rw [← hwa, ← hwb]
  clear hwa hwb hs1
  generalize hD : w.heap.size = D at *
  replace hD := Lib.hid hD
  have q0 := HO.out.1.c0
  have q1 := HO.out.1.c1
  have p0 := HO.out.2.c0
  have p1 := HO.out.2.c1
  have p2 := HO.out.2.c2
  have f0 := HO.out.2.fz 0
  have f1 := HO.out.2.fz 1
  have f2 := HO.out.2.fz 2
  by_cases hin : (sm : Int) ≤ x0
  · have hd1 : decide ((sm : Int) ≤ x0) = true := decide_eq_true hin
    rw [if_pos (.inl hin)] at hres
    replace hres := Lib.hid hres
    clear KV
    go_wp2
    have zz : Sb (((wb.setCell ⟨D + 1, 0, none⟩ (.int .i64 0)).setCell ⟨D + 1, 1, none⟩ (.int .i64 0)).setCell ⟨D + 1, 2, none⟩ (.string ⟨#[]⟩)) (D + 1) Slt.zero := HO.out.2.set Slt.zero
    have z0 : (((wb.setCell ⟨D + 1, 0, none⟩ (.int .i64 0)).setCell ⟨D + 1, 1, none⟩ (.int .i64 0)).setCell ⟨D + 1, 2, none⟩ (.string ⟨#[]⟩)).cell? ⟨D + 1, 0, none⟩ = some (.int .i64 0) := zz.c0
    have z1 : (((wb.setCell ⟨D + 1, 0, none⟩ (.int .i64 0)).setCell ⟨D + 1, 1, none⟩ (.int .i64 0)).setCell ⟨D + 1, 2, none⟩ (.string ⟨#[]⟩)).cell? ⟨D + 1, 1, none⟩ = some (.int .i64 0) := zz.c1
    have z2 : (((wb.setCell ⟨D + 1, 0, none⟩ (.int .i64 0)).setCell ⟨D + 1, 1, none⟩ (.int .i64 0)).setCell ⟨D + 1, 2, none⟩ (.string ⟨#[]⟩)).cell? ⟨D + 1, 2, none⟩ = some (.string ⟨#[]⟩) := zz.c2
    exact bodyPost_ret (v := .tuple #[.agg #[.int .i64 0, .int .i64 0, .string ⟨#[]⟩], .bool false]) (by simp [results, Tryz.results99, go_sem, z0, z1, z2]) rfl ⟨by rw [hres.out]; rfl, by rw [hD.out]; exact below_set3 HB.out (by omega) _ _ _⟩
  · have hd1 : decide ((sm : Int) ≤ x0) = false := decide_eq_false hin
    obtain ⟨i, hi⟩ : ∃ i : Nat, x0 = (i : Int) := ⟨x0.toNat, by omega⟩
    subst hi
    simp only [Int.toNat_natCast] at hres
    have him : i < sm := by omega
    obtain ⟨b', o', hA', _⟩ := HSb.out.some (by omega)
    subst hA'
    obtain ⟨s0, s1, s2⟩ := HSb.out.at_ him
    have hwf := HSb.out.wf i him
    have g0 := wf_i hwf.1
    have g1 := wf_i hwf.2.1
    have g2 : (gt S i).tx.size ≤ 9223372036854775807 := hwf.2.2
    clear KV hwf hin
    clear HSb
    generalize gt S i = s at *
    have HI := Lib.hid him
    obtain ⟨wc, hwc⟩ : ∃ wc, wc = wb.alloc (.cells #[.int .i64 s.st, .int .i64 s.ct, .string s.tx] 61) := ⟨_, rfl⟩
    have hbc : Below wb.heap.size wb wc := by rw [hwc]; exact (Below.refl _ wb).alloc (Nat.le_refl _) _
    have ob3 := HO.out.1.below hbc HO.out.1.lt
    have sb3 := HO.out.2.below hbc HO.out.2.lt
    have nb : Sb wc (D + 2) s := ⟨by rw [hwc, ← hsz]; exact heap_alloc_new wb _⟩
    have w0 : wc.cell? ⟨b, o, none⟩ = some (.int .u64 (i : Int)) := (hbc.cell (p := ⟨b, o, none⟩) (by assumption)).trans y0
    have w1 : wc.cell? ⟨b, o + 1, none⟩ = some (.int .u64 x1) := (hbc.cell (p := ⟨b, o + 1, none⟩) (by assumption)).trans y1
    have w2 : wc.cell? ⟨b, o + 2, none⟩ = some (.int .u64 x2) := (hbc.cell (p := ⟨b, o + 2, none⟩) (by assumption)).trans y2
    have ZZ : ∀ q, Sb ((((wc.drewN q).setCell ⟨D + 1, 0, none⟩ (.int .i64 0)).setCell ⟨D + 1, 1, none⟩ (.int .i64 0)).setCell ⟨D + 1, 2, none⟩ (.string ⟨#[]⟩)) (D + 1) Slt.zero := fun q => Sb.set (w := wc.drewN q) ⟨sb3.blk⟩ Slt.zero
    have Z0 : ∀ q, ((((wc.drewN q).setCell ⟨D + 1, 0, none⟩ (.int .i64 0)).setCell ⟨D + 1, 1, none⟩ (.int .i64 0)).setCell ⟨D + 1, 2, none⟩ (.string ⟨#[]⟩)).cell? ⟨D + 1, 0, none⟩ = some (.int .i64 0) := fun q => (ZZ q).c0
    have Z1 : ∀ q, ((((wc.drewN q).setCell ⟨D + 1, 0, none⟩ (.int .i64 0)).setCell ⟨D + 1, 1, none⟩ (.int .i64 0)).setCell ⟨D + 1, 2, none⟩ (.string ⟨#[]⟩)).cell? ⟨D + 1, 1, none⟩ = some (.int .i64 0) := fun q => (ZZ q).c1
    have Z2 : ∀ q, ((((wc.drewN q).setCell ⟨D + 1, 0, none⟩ (.int .i64 0)).setCell ⟨D + 1, 1, none⟩ (.int .i64 0)).setCell ⟨D + 1, 2, none⟩ (.string ⟨#[]⟩)).cell? ⟨D + 1, 2, none⟩ = some (.string ⟨#[]⟩) := fun q => (ZZ q).c2
    have YY : ∀ q, Sb ((((wc.drewN q).setCell ⟨D + 1, 0, none⟩ (.int .i64 s.st)).setCell ⟨D + 1, 1, none⟩ (.int .i64 s.ct)).setCell ⟨D + 1, 2, none⟩ (.string s.tx)) (D + 1) s := fun q => Sb.set (w := wc.drewN q) ⟨sb3.blk⟩ s
    have Y0 : ∀ q, ((((wc.drewN q).setCell ⟨D + 1, 0, none⟩ (.int .i64 s.st)).setCell ⟨D + 1, 1, none⟩ (.int .i64 s.ct)).setCell ⟨D + 1, 2, none⟩ (.string s.tx)).cell? ⟨D + 1, 0, none⟩ = some (.int .i64 s.st) := fun q => (YY q).c0
    have Y1 : ∀ q, ((((wc.drewN q).setCell ⟨D + 1, 0, none⟩ (.int .i64 s.st)).setCell ⟨D + 1, 1, none⟩ (.int .i64 s.ct)).setCell ⟨D + 1, 2, none⟩ (.string s.tx)).cell? ⟨D + 1, 1, none⟩ = some (.int .i64 s.ct) := fun q => (YY q).c1
    have Y2 : ∀ q, ((((wc.drewN q).setCell ⟨D + 1, 0, none⟩ (.int .i64 s.st)).setCell ⟨D + 1, 1, none⟩ (.int .i64 s.ct)).setCell ⟨D + 1, 2, none⟩ (.string s.tx)).cell? ⟨D + 1, 2, none⟩ = some (.string s.tx) := fun q => (YY q).c2
    replace Z0 := Lib.hid Z0; replace Z1 := Lib.hid Z1; replace Z2 := Lib.hid Z2; replace Y0 := Lib.hid Y0; replace Y1 := Lib.hid Y1; replace Y2 := Lib.hid Y2
    clear ZZ YY
    replace hres := Lib.hid hres
    have HB3 : Hid (Below D w wc) := Lib.hid (HB.out.trans (hbc.mono (by omega)))
    have hi1 : (i : Int) < (sm : Int) := by omega
    have e1 : wrap64 x1 = x1 := by simp only [wrap64]; omega
    have e2 : wrap64 x2 = x2 := by simp only [wrap64]; omega
    go_upto_region 4 with fail
    rw [← hwc]
    clear hwc y0 y1 y2 q0 q1 p0 p1 p2 f0 f1 f2 s0 s1 s2 hd1
    have y0 := w0
    have y1 := w1
    have y2 := w2
    have q0 := ob3.c0
    have q1 := ob3.c1
    have p0 := sb3.c0
    have p1 := sb3.c1
    have p2 := sb3.c2
    have f0 := sb3.fz 0
    have f1 := sb3.fz 1
    have f2 := sb3.fz 2
    have n0 := nb.c0
    have n1 := nb.c1
    have n2 := nb.c2
    clear w0 w1 w2
    have HS3 := Lib.hid sb3
    clear ob3 sb3 nb hbc HO
    replace hres := hres.out
    by_cases hct : s.ct = 0
    · rw [if_pos (.inr (.inl hct))] at hres
      replace hres := Lib.hid hres
      have hd2 : (s.ct == 0) = true := by rw [hct]; rfl
      clear hct
      go_quiet (fail)
      go_wp2
      exact bodyPost_ret (v := .tuple #[.agg #[.int .i64 0, .int .i64 0, .string ⟨#[]⟩], .bool false]) (by simp [results, Tryz.results99, go_sem, Z0.out, Z1.out, Z2.out]) rfl ⟨by rw [hres.out]; rfl, by rw [hD.out]; exact below_set3 (below_drewN HB3.out _) (by omega) _ _ _⟩
    · have hd2 : (s.ct == 0) = false := beq_eq_false_iff_ne.2 hct
      by_cases hst : s.st = x1
      · have hd3 : (s.st != x1) = false := by rw [hst]; simp
        by_cases htx : (s.tx.size : Int) = x2
        · have hd4 : ((s.tx.size : Int) != x2) = false := by rw [htx]; simp
          rw [if_neg (by omega)] at hres
          replace hres := Lib.hid hres
          clear hct hst htx
          go_quiet (fail)
          go_wp2
          exact bodyPost_ret (v := .tuple #[.agg #[.int .i64 s.st, .int .i64 s.ct, .string s.tx], .bool true]) (by simp [results, Tryz.results99, go_sem, Y0.out, Y1.out, Y2.out]) rfl ⟨by rw [hres.out]; rfl, by rw [hD.out]; exact below_set3 (below_drewN HB3.out _) (by omega) _ _ _⟩
        · have hd4 : ((s.tx.size : Int) != x2) = true := bne_iff_ne.2 htx
          rw [if_pos (.inr (.inr (.inr htx)))] at hres
          replace hres := Lib.hid hres
          clear hct hst htx
          go_quiet (fail)
          go_wp2
          exact bodyPost_ret (v := .tuple #[.agg #[.int .i64 0, .int .i64 0, .string ⟨#[]⟩], .bool false]) (by simp [results, Tryz.results99, go_sem, Z0.out, Z1.out, Z2.out]) rfl ⟨by rw [hres.out]; rfl, by rw [hD.out]; exact below_set3 (below_drewN HB3.out _) (by omega) _ _ _⟩
      · have hd3 : (s.st != x1) = true := bne_iff_ne.2 hst
        rw [if_pos (.inr (.inr (.inl hst)))] at hres
        replace hres := Lib.hid hres
        clear hct hst
        go_quiet (fail)
        go_wp2
        exact bodyPost_ret (v := .tuple #[.agg #[.int .i64 0, .int .i64 0, .string ⟨#[]⟩], .bool false]) (by simp [results, Tryz.results99, go_sem, Z0.out, Z1.out, Z2.out]) rfl ⟨by rw [hres.out]; rfl, by rw [hD.out]; exact below_set3 (below_drewN HB3.out _) (by omega) _ _ _⟩
end Go.Proofs.YtejmmjedognaaaaGreat

namespace Go.Proofs.YtejmmjedognaaaaGreat
open Go.RowKit
open St

/-- A reader in a variable. -/
structure Rdr (w : World) (D : Nat) (mv : Value) (SA : Option Addr) (sm sc : Nat) (kv : Value) : Prop where
  blk : w.heap[D]? = some (.cells #[mv, .slice SA sm sc, kv] 68 (0, 0))
namespace Rdr
variable {w w' : World} {D : Nat} {mv : Value} {SA : Option Addr} {sm sc : Nat} {kv : Value}
set_option maxRecDepth 100000 in
theorem lt (h : Rdr w D mv SA sm sc kv) : D < w.heap.size := (Array.getElem?_eq_some_iff.1 h.blk).1
set_option maxRecDepth 100000 in
theorem below (h : Rdr w D mv SA sm sc kv) {B : Nat} (hb : Below B w w') (hB : D < B) : Rdr w' D mv SA sm sc kv := ⟨(hb.block D hB).trans h.blk⟩
set_option maxRecDepth 100000 in
theorem c0 (h : Rdr w D mv SA sm sc kv) : w.cell? ⟨D, 0, none⟩ = some mv := (cell_of_row w D 0 _ _ (0, 0) h.blk).trans rfl
set_option maxRecDepth 100000 in
theorem c1 (h : Rdr w D mv SA sm sc kv) : w.cell? ⟨D, 1, none⟩ = some (.slice SA sm sc) := (cell_of_row w D 1 _ _ (0, 0) h.blk).trans rfl
set_option maxRecDepth 100000 in
theorem c2 (h : Rdr w D mv SA sm sc kv) : w.cell? ⟨D, 2, none⟩ = some kv := (cell_of_row w D 2 _ _ (0, 0) h.blk).trans rfl
set_option maxRecDepth 100000 in
theorem new (w : World) (mv : Value) (SA : Option Addr) (sm sc : Nat) (kv : Value) : Rdr (w.alloc (.cells #[mv, .slice SA sm sc, kv] 68)) w.heap.size mv SA sm sc kv := ⟨heap_alloc_new w _⟩
end Rdr
def TxP (w : World) (r : ByteArray × Bool) (e : Ending) (w' : World) : Prop := e = .returned (.tuple #[.string r.1, .bool r.2]) ∧ Below w.heap.size w w'

set_option maxRecDepth 100000 in
/-- Two variables that a method of a reader begins with. -/
theorem rdr_obj (w : World) (mv : Value) (SA : Option Addr) (sm sc : Nat) (kv : Value) (k : Int) (A : Option Addr) (n c : Nat) :
    ∃ wb, wb = (w.alloc (.cells #[mv, .slice SA sm sc, kv] 68)).alloc (.cells #[.int .i64 k, .slice A n c] 93) ∧ Below w.heap.size w wb ∧ Rdr wb w.heap.size mv SA sm sc kv ∧ Ob wb (w.heap.size + 1) k A n c ∧ wb.heap.size = w.heap.size + 2 := by
  have hb := (Below.refl w.heap.size w).alloc (Nat.le_refl _) (.cells #[mv, .slice SA sm sc, kv] 68)
  have hb2 := (Below.refl _ (w.alloc (.cells #[mv, .slice SA sm sc, kv] 68))).alloc (Nat.le_refl _) (.cells #[.int .i64 k, .slice A n c] 93)
  refine ⟨_, rfl, hb.trans (hb2.mono hb.size), (Rdr.new w mv SA sm sc kv).below hb2 (by simp), ?_, by simp⟩
  have := Ob.new (w.alloc (.cells #[mv, .slice SA sm sc, kv] 68)) k A n c
  simpa using this

set_option maxRecDepth 100000 in
theorem byH_ok {S : List Slt} {ws : List Int} (h : (byR [] false 3 ws).2.2 = true) : ∃ n : Nat, ws.getD 0 0 = (n : Int) ∧ 1 ≤ ws.length ∧ n ≤ 64 ∧ ws.length = (n + 7) / 8 + 1 ∧ byR S true 3 ws = (Wr.str ((byts (ws.drop 1)).take n), (n : Int), true) := by
  have hnb := by_nb h
  have hnr := (byR_ok h).1
  rw [hnb.1] at hnr
  have h1 := hnb.2.1 rfl
  have e0 : nbO 3 ws = ws.getD 0 0 := if_pos rfl
  rw [e0] at hnr
  obtain ⟨n, hn⟩ : ∃ n : Nat, ws.getD 0 0 = (n : Int) := ⟨(ws.getD 0 0).toNat, by omega⟩
  have h6 : n ≤ 64 := by
    have h2 := h
    by_cases h3 : 64 < ws.getD 0 0
    · rw [byB_big h1 h3] at h2; cases h2
    · omega
  rw [byB_eq h1 hn h6] at h
  obtain ⟨l, hl⟩ := Option.isSome_iff_exists.1 h
  have hp := hl
  unfold pkO at hp
  split at hp
  · next hc =>
    have hll := hc.1
    rw [List.length_drop] at hll
    refine ⟨n, hn, h1, h6, by omega, ?_⟩
    unfold byR
    rw [if_pos ⟨rfl, h1⟩]
    unfold byH smlZ
    rw [hn, if_neg (by omega), if_neg (by omega), Int.toNat_natCast, hl]
    simp only
    rw [Option.some.inj hp]
  · cases hp

set_option maxRecDepth 100000 in
set_option maxRecDepth 100000 in
set_option maxHeartbeats 8000000 in
theorem text_H {w : World} {SA : Option Addr} {sm sc : Nat} (S : List Slt) {A : Option Addr} {n c : Nat} {ws : List Int} (mv kv : Value) (h : Zs .u64 w A n c ws) (hn : n ≤ 1000) (hf : (byR [] false 3 ws).2.2 = true) :
    Calls Tryz.prog 87 #[.agg #[mv, .slice SA sm sc, kv], .agg #[.int .i64 3, .slice A n c]] w (TxP w ((byR S true 3 ws).1, (byR S true 3 ws).2.2)) := by
  obtain ⟨q, hq, h1, h6, hlen, hby⟩ := byH_ok (S := S) hf
  rw [hby]
  clear hby
  obtain ⟨wb, hwb, hbb, rd, ob, hsz⟩ := rdr_obj w mv SA sm sc kv 3 A n c
  have hl := h.len
  have hz := h.below hbb
  obtain ⟨b, o, hA, _⟩ := hz.some (by omega)
  subst hA
  have hn0 : (0 : Int) < (n : Int) := by omega
  have hnN : 0 < n := by omega
  have KV : Hid (∀ w', Below wb.heap.size wb w' → w'.cell? ⟨w.heap.size + 1, 0, none⟩ = some (.int .i64 3) ∧ w'.cell? ⟨w.heap.size + 1, 1, none⟩ = some (.slice (some ⟨b, o, none⟩) n c) ∧ w'.cell? ⟨b, o, none⟩ = some (.int .u64 (q : Int))) := Lib.hid (fun w' hb => by
    have z0 := (hz.below hb).at_ (j := 0) (by omega)
    rw [hq] at z0
    exact ⟨(ob.below hb ob.lt).c0, (ob.below hb ob.lt).c1, by simpa using z0⟩)
  obtain ⟨k, hk⟩ : ∃ k, n = k + 1 := ⟨n - 1, by omega⟩
  have hBI := bytesIn_any (hz.drewN 1) hk hn
  have hk8 : q ≤ k * 8 := by omega
  have HBI := Lib.hid hBI
  have HB := Lib.hid hbb
  obtain ⟨q0, q1, _⟩ := KV.out wb (Below.refl _ _)
  have hk9 : k ≤ 999 := by omega
  clear h hz hBI rd ob hbb hq hf hlen hl h1
  replace hk := Lib.hid hk
  generalize byts (ws.drop 1) = bs at *
  go_enter Tryz.func87, Tryz.ntmps87
  go_upto_region 1 with fail
  rw [← hwb]
  clear hwb
  generalize hD : w.heap.size = D at *
  replace hD := Lib.hid hD
  go_upto_region 3 with fail
  go_region_held (fun w' => w'.cell? ⟨D + 1, 0, none⟩ = some (.int .i64 3) ∧ w'.cell? ⟨D + 1, 1, none⟩ = some (.slice (some ⟨b, o, none⟩) n c) ∧ w'.cell? ⟨b, o, none⟩ = some (.int .u64 (q : Int)))
    (first | exact KV.out wb (Below.refl _ _) | exact KV.out (wb.drewN 1) (bel_drewN wb 1) | exact KV.out w6 hb7)
    (first | (go_at_call 120; refine HBI.out.mono ?_; rintro e w6 ⟨g, c6, rfl, hB6, hb6⟩; have hb7 : Below wb.heap.size wb w6 := (bel_drewN wb 1).trans hb6; have hcap := hB6.cap; have hcap1 : c6 ≤ 9223372036854775807 := hcap.2; have hqc : (q : Int) ≤ (c6 : Int) := (by omega); have HCv := lk_conv_bytes (hB6.take q hk8).by))
  all_goals
    go_wp2
    go_ret2
    exact ⟨rfl, by rw [hD.out]; exact HB.out.trans (hb7.mono (by have h9 := HB.out.size; rw [hD.out] at h9; exact h9))⟩

set_option maxRecDepth 100000 in
theorem byC_sl {S : List Slt} {ws : List Int} (h : (byR [] false 4 ws).2.2 = true) : ws.length = 3 ∧ (0 ≤ ws.getD 1 0 → ws.getD 1 0 ≤ 1073741824) ∧ (0 ≤ ws.getD 2 0 → ws.getD 2 0 ≤ 400) ∧ ((byR S true 4 ws).1, (byR S true 4 ws).2.2) = (((slO S ws).getD Slt.zero).tx, (slO S ws).isSome) := by
  unfold byR at h ⊢
  rw [if_neg (by omega)] at h
  by_cases h3 : ws.length = 3
  · rw [if_pos ⟨rfl, h3⟩] at h
    rw [if_neg (by omega), if_pos ⟨rfl, h3⟩]
    unfold byC at h ⊢
    by_cases hc : smlZ (ws.getD 0 0) 1073741824 < 0 ∨ smlZ (ws.getD 1 0) 1073741824 < 0 ∨ smlZ (ws.getD 2 0) 400 < 0
    · rw [if_pos hc] at h; cases h
    · have ey : ∀ x m : Int, ¬ smlZ x m < 0 → smlZ x m = x ∧ x ≤ m := fun x m hx => by
        unfold smlZ at hx ⊢
        split
        · next e => rw [if_pos e] at hx; omega
        · exact ⟨rfl, by omega⟩
      obtain ⟨e0, _⟩ := ey _ _ (fun e => hc (.inl e))
      obtain ⟨e1, l1⟩ := ey _ _ (fun e => hc (.inr (.inl e)))
      obtain ⟨e2, l2⟩ := ey _ _ (fun e => hc (.inr (.inr e)))
      refine ⟨h3, fun _ => l1, fun _ => l2, ?_⟩
      rw [if_neg hc, e0, e1, e2]
      unfold slO
      by_cases hd : (S.length : Int) ≤ ws.getD 0 0 ∨ (gt S (ws.getD 0 0).toNat).ct = 0 ∨ (gt S (ws.getD 0 0).toNat).st ≠ ws.getD 1 0 ∨ ((gt S (ws.getD 0 0).toNat).tx.size : Int) ≠ ws.getD 2 0
      · rw [if_pos hd, if_pos hd]; rfl
      · rw [if_neg hd, if_neg hd]; rfl
  · rw [if_neg (fun e => h3 e.2)] at h; cases h

set_option maxRecDepth 100000 in
set_option maxRecDepth 100000 in
set_option maxHeartbeats 8000000 in
theorem text_C {w : World} {SA : Option Addr} {sm sc : Nat} {S : List Slt} (hS : SLs w SA sm sc S) (hsm : sm ≤ 1000) {A : Option Addr} {n c : Nat} {ws : List Int} (mv kv : Value) (h : Zs .u64 w A n c ws) (hf : (byR [] false 4 ws).2.2 = true) :
    Calls Tryz.prog 87 #[.agg #[mv, .slice SA sm sc, kv], .agg #[.int .i64 4, .slice A n c]] w (TxP w ((byR S true 4 ws).1, (byR S true 4 ws).2.2)) := by
  obtain ⟨hl3, l1, l2, hby⟩ := byC_sl (S := S) hf
  rw [hby]
  clear hby
  obtain ⟨wb, hwb, hbb, rd, ob, hsz⟩ := rdr_obj w mv SA sm sc kv 4 A n c
  have hn3 : n = 3 := by rw [← h.len, hl3]
  subst hn3
  have hz := h.below hbb
  have hx1 := wf_u (hz.wfAt (j := 1) (by omega))
  have hx2 := wf_u (hz.wfAt (j := 2) (by omega))
  have HSl := Lib.hid (slotOf_any (hS.below hbb) hsm hz 4 (l1 hx1.1) (l2 hx2.1))
  have HB := Lib.hid hbb
  have q0 := ob.c0
  have q1 := ob.c1
  have r1 := rd.c1
  clear h hz rd ob hbb hf hS l1 l2 hx1 hx2 hl3
  generalize slO S ws = so at *
  unfold SlP at HSl
  generalize (so.getD Slt.zero) = s at *
  generalize so.isSome = okb at *
  go_enter Tryz.func87, Tryz.ntmps87
  go_upto_region 1 with fail
  rw [← hwb]
  clear hwb
  generalize hD : w.heap.size = D at *
  replace hD := Lib.hid hD
  go_wp2_with (go_at_call 99; (with_reducible refine HSl.out.mono ?_); rintro e w3 ⟨rfl, hb3⟩; replace hb3 := Lib.hid hb3)
  go_ret2
  refine ⟨rfl, ?_⟩
  rw [hD.out]
  have h9 := HB.out.trans (hb3.out.mono (by have h9 := HB.out.size; rw [hD.out] at h9; exact h9))
  exact h9.alloc (by have := h9.size; rw [hD.out] at this; exact this) _
end Go.Proofs.YtejmmjedognaaaaGreat

namespace Go.Proofs.YtejmmjedognaaaaGreat
open Go.RowKit
open St

set_option maxRecDepth 100000 in
theorem byT_nb {S : List Slt} {k : Int} {b : List Int} (h : (byR S true k b).2.2 = true) (hf : (byR [] false k b).2.2 = true) : (byR S true k b).2.1 = nbO k b := by
  rcases byF_3 hf with rfl | rfl
  · obtain ⟨n, hn, _, _, _, hby⟩ := byH_ok (S := S) hf
    rw [hby]
    show (n : Int) = nbO 3 b
    rw [show nbO 3 b = b.getD 0 0 from if_pos rfl, hn]
  · have hl := (by_nb hf).2.2 rfl
    rw [show nbO 4 b = b.getD 2 0 from if_neg (by omega)]
    unfold byR at h hf ⊢
    rw [if_neg (by omega), if_pos ⟨rfl, hl⟩] at h hf ⊢
    unfold byC at h hf ⊢
    by_cases hc : smlZ (b.getD 0 0) 1073741824 < 0 ∨ smlZ (b.getD 1 0) 1073741824 < 0 ∨ smlZ (b.getD 2 0) 400 < 0
    · rw [if_pos hc] at h; cases h
    · rw [if_neg hc] at h ⊢
      have e2 : smlZ (b.getD 2 0) 400 = b.getD 2 0 := by
        have h4 : ¬ smlZ (b.getD 2 0) 400 < 0 := fun e => hc (.inr (.inr e))
        unfold smlZ at h4 ⊢
        split
        · next h5 => rw [if_pos h5] at h4; omega
        · rfl
      rw [if_neg (by simp)] at h ⊢
      split at h
      · cases h
      · next h7 => rw [if_neg h7]; exact e2
set_option maxRecDepth 100000 in
theorem sub_split {gs : List Frg} {S : List Slt} {ws : List Int} (hf : (subR gs [] false ws).2 = true) (h1 : 0 ≤ ws.getD 1 0) (h2 : 0 ≤ ws.getD 2 0) :
    ws.length = 3 ∧ ∃ k b, boxO gs (ws.getD 0 0) = some (k, b) ∧ (byR [] false k b).2.2 = true ∧ ∃ f m : Nat, ws.getD 1 0 = (f : Int) ∧ ws.getD 2 0 = (m : Int) ∧ (f : Int) + (m : Int) ≤ nbO k b ∧ nbO k b ≤ 400 ∧
      subR gs S true ws = (if (byR S true k b).2.2 = false then (⟨#[]⟩, false) else ((byR S true k b).1.extract f (f + m), true)) := by
  have h3 : ws.length = 3 := by
    by_cases e : ws.length = 3
    · exact e
    · rw [sub_ne e] at hf; cases hf
  refine ⟨h3, ?_⟩
  cases hb : boxO gs (ws.getD 0 0) with
  | none => rw [sub_boxO h3 (fun k b e => by rw [hb] at e; cases e)] at hf; cases hf
  | some p =>
    obtain ⟨k, b⟩ := p
    have hfb : (byR [] false k b).2.2 = true := by
      cases e : (byR [] false k b).2.2 with
      | true => rfl
      | false => rw [sub_boxO h3 (fun k' b' e' => by rw [hb] at e'; cases e'; exact e)] at hf; cases hf
    rw [sub_eq h3 hb hfb h1 h2] at hf
    simp only [Bool.and_eq_true, decide_eq_true_eq] at hf
    have hnr := (byR_ok hfb).1
    rw [(by_nb hfb).1] at hnr
    obtain ⟨f, hfe⟩ : ∃ f : Nat, ws.getD 1 0 = (f : Int) := ⟨(ws.getD 1 0).toNat, by omega⟩
    obtain ⟨m, hme⟩ : ∃ m : Nat, ws.getD 2 0 = (m : Int) := ⟨(ws.getD 2 0).toNat, by omega⟩
    rw [hfe, hme] at hf
    refine ⟨k, b, rfl, hfb, f, m, hfe, hme, by omega, hnr.2, ?_⟩
    unfold subR
    rw [if_neg (by omega), hb, hfe, hme]
    rw [show smlZ (f : Int) 400 = (f : Int) from if_neg (by omega), show smlZ (m : Int) 400 = (m : Int) from if_neg (by omega)]
    unfold sbZ
    simp only
    rw [if_neg (by omega)]
    cases hT : (byR S true k b).2.2 with
    | false => rw [if_pos (.inl rfl), if_pos rfl]
    | true =>
      rw [byT_nb hT hfb, if_neg (by
        rintro (e | e)
        · cases e
        · omega), if_neg (by simp), if_neg (by simp), Int.toNat_natCast, Int.toNat_natCast]

set_option maxRecDepth 100000 in
set_option maxRecDepth 100000 in
set_option maxHeartbeats 8000000 in
theorem text_S {w : World} {gs : List Frg} {mv : Value} (hM : Mm w gs mv) (hgs : ∀ f ∈ gs, f.ws.length ≤ 1000) {SA : Option Addr} {sm sc : Nat} {S : List Slt} (hS : SLs w SA sm sc S) (hsm : sm ≤ 1000) {A : Option Addr} {n c : Nat} {ws : List Int} (kv : Value) (h : Zs .u64 w A n c ws) (hf : (subR gs [] false ws).2 = true) :
    Calls Tryz.prog 87 #[.agg #[mv, .slice SA sm sc, kv], .agg #[.int .i64 5, .slice A n c]] w (TxP w (subR gs S true ws)) := by
  have hl3 : ws.length = 3 := by
    by_cases e : ws.length = 3
    · exact e
    · rw [sub_ne e] at hf; cases hf
  have hn3 : n = 3 := by rw [← h.len, hl3]
  subst hn3
  have hx0 := wf_u (h.wfAt (j := 0) (by omega))
  have hx1 := wf_u (h.wfAt (j := 1) (by omega))
  have hx2 := wf_u (h.wfAt (j := 2) (by omega))
  obtain ⟨_, k, bs, hbx, hfb, f, m, hfe, hme, hfm, hnb, hres⟩ := sub_split (S := S) hf hx1.1 hx2.1
  obtain ⟨res, hr⟩ : ∃ res, res = subR gs S true ws := ⟨_, rfl⟩
  rw [← hr] at hres ⊢
  have hout : outO gs (ws.getD 0 0) = some (k, bs) := by
    unfold outO
    rw [if_neg (fun e => ?_)]
    · exact hbx
    · unfold boxO at hbx
      cases e2 : atL gs (ldZ (ws.getD 0 0)) with
      | nil => rw [e2] at hbx; cases hbx
      | cons a t =>
        rw [e2] at hbx
        change (if ws.getD 0 0 % 8 = 4 ∧ ptB a = true ∧ a / 64 ≤ (t.length : Int) then some (a / 8 % 8, t.take (a / 64).toNat) else none) = some (k, bs) at hbx
        by_cases h9 : ws.getD 0 0 % 8 = 4 ∧ ptB a = true ∧ a / 64 ≤ (t.length : Int)
        · omega
        · rw [if_neg h9] at hbx; cases hbx
  obtain ⟨wb, hwb, hbb, rd, ob, hsz⟩ := rdr_obj w mv SA sm sc kv 5 A 3 c
  have hz := h.below hbb
  have hSb := hS.below hbb
  have hMb := hM.below hbb
  obtain ⟨b, o, hA, _⟩ := hz.some (by omega)
  subst hA
  have KV : Hid (∀ w', Below wb.heap.size wb w' → (w'.cell? ⟨w.heap.size + 1, 0, none⟩ = some (.int .i64 5) ∧ w'.cell? ⟨w.heap.size + 1, 1, none⟩ = some (.slice (some ⟨b, o, none⟩) 3 c) ∧ w'.cell? ⟨b, o, none⟩ = some (.int .u64 (ws.getD 0 0)) ∧ w'.cell? ⟨w.heap.size, 0, none⟩ = some mv ∧ w'.cell? ⟨w.heap.size, 1, none⟩ = some (.slice SA sm sc) ∧ w'.cell? ⟨w.heap.size, 2, none⟩ = some kv) ∧ SLs w' SA sm sc S) := Lib.hid (fun w' hb => by
    have z0 := (hz.below hb).at_ (j := 0) (by omega)
    exact ⟨⟨(ob.below hb ob.lt).c0, (ob.below hb ob.lt).c1, by simpa using z0, (rd.below hb rd.lt).c0, (rd.below hb rd.lt).c1, (rd.below hb rd.lt).c2⟩, hSb.below hb⟩)
  have HOu := Lib.hid (fun w' (hb : Below wb.heap.size wb w') => outline_some (hMb.below hb) (ws.getD 0 0) hx0 hout)
  have HbA : Hid (∀ q, Below wb.heap.size wb ((wb.drewN q).alloc (.cells #[.int .i64 0, .slice none 0 0] 93))) := Lib.hid (fun q => (bel_drewN wb q).alloc (Nat.le_refl _) _)
  have HoA : Hid (∀ q, Ob ((wb.drewN q).alloc (.cells #[.int .i64 0, .slice none 0 0] 93)) (w.heap.size + 2) 0 none 0 0) := Lib.hid (fun q => by
    have := Ob.new (wb.drewN q) 0 none 0 0
    rw [show (wb.drewN q).heap.size = w.heap.size + 2 from hsz] at this
    exact this)
  have hbl := outO_len hgs hout
  have HTx : Hid (∀ (w' : World) A' n' c', SLs w' SA sm sc S → Zs .u64 w' A' n' c' bs → Calls Tryz.prog 87 #[.agg #[mv, .slice SA sm sc, kv], .agg #[.int .i64 k, .slice A' n' c']] w' (TxP w' ((byR S true k bs).1, (byR S true k bs).2.2))) := Lib.hid (fun w' A' n' c' hS' hz' => by
    rcases byF_3 hfb with rfl | rfl
    · exact text_H S mv kv hz' (by rw [← hz'.len]; exact hbl) hfb
    · exact text_C hS' hsm mv kv hz' hfb)
  have hsize : (byR S true k bs).2.2 = true → (((byR S true k bs).1.size : Nat) : Int) = nbO k bs := fun e => by
    rw [(byR_ok e).2 (by simp)]
    exact byT_nb e hfb
  have y1 : wb.cell? ⟨b, o + 1, none⟩ = some (.int .u64 (f : Int)) := by rw [← hfe]; exact hz.at_ (j := 1) (by omega)
  have y2 : wb.cell? ⟨b, o + 2, none⟩ = some (.int .u64 (m : Int)) := by rw [← hme]; exact hz.at_ (j := 2) (by omega)
  have HB := Lib.hid hbb
  obtain ⟨⟨q0, q1, _⟩, _⟩ := KV.out wb (Below.refl _ _)
  clear h hz hSb hMb rd ob hbb hf hr hout hbx hfb hbl hS hM hl3 hfe hme hx1 hx2
  generalize ws.getD 0 0 = x0 at *
  generalize (byR S true k bs).1 = tx at *
  generalize (byR S true k bs).2.2 = okb at *
  generalize nbO k bs = nb at *
  go_enter Tryz.func87, Tryz.ntmps87
  go_upto_region 1 with fail
  rw [← hwb]
  clear hwb
  generalize hD : w.heap.size = D at *
  replace hD := Lib.hid hD
  replace hres := Lib.hid hres
  replace hsize := Lib.hid hsize
  go_upto_region 8 with fail
  go_quiet (fail)
  clear y1 y2
  go_upto_region 9 with fail
  go_region_held3 (fun w' => w'.cell? ⟨D + 1, 0, none⟩ = some (.int .i64 5) ∧ w'.cell? ⟨D + 1, 1, none⟩ = some (.slice (some ⟨b, o, none⟩) 3 c) ∧ w'.cell? ⟨b, o, none⟩ = some (.int .u64 x0) ∧ w'.cell? ⟨D, 0, none⟩ = some mv ∧ w'.cell? ⟨D, 1, none⟩ = some (.slice SA sm sc) ∧ w'.cell? ⟨D, 2, none⟩ = some kv)
    (first | exact (KV.out _ (bel_drewN wb _)).1 | exact (KV.out _ (bel_drewN wb _).drew).1 | exact (KV.out _ (HbA.out _)).1 | exact (KV.out _ hb7).1 | exact (KV.out _ (hb8 _)).1 | exact (KV.out _ (hb7.setCell (p := ⟨D + 2, 0, none⟩) (Nat.le_of_eq hsz) _)).1 | exact (KV.out _ ((hb7.setCell (p := ⟨D + 2, 0, none⟩) (Nat.le_of_eq hsz) _).setCell (p := ⟨D + 2, 1, none⟩) (Nat.le_of_eq hsz) _)).1 | (trace_state; fail))
    (first
      | (go_at_call 84; refine (HOu.out (wb.drewN _) (bel_drewN wb _)).mono ?_; rintro e w6 ⟨A6, n6, c6, rfl, hz6, hb6⟩; have hb7 : Below wb.heap.size wb w6 := (bel_drewN wb _).trans hb6; have hb8 := fun o : Obj => hb7.alloc hb7.size o)
      | (go_at_call 84; refine (HOu.out _ (HbA.out _)).mono ?_; rintro e w6 ⟨A6, n6, c6, rfl, hz6, hb6⟩; have hb7 : Below wb.heap.size wb w6 := (HbA.out _).trans (hb6.mono (HbA.out _).size); have hob6 := (HoA.out _).below hb6 (HoA.out _).lt; have o0 := hob6.c0; have o1 := hob6.c1; have g0 := hob6.f0; have g1 := hob6.f1))
  all_goals
    first
      | (obtain ⟨w7, hw7⟩ : ∃ w7, w7 = (w6.setCell ⟨D + 2, 0, none⟩ (.int .i64 k)).setCell ⟨D + 2, 1, none⟩ (.slice A6 n6 c6) := ⟨_, rfl⟩
         obtain ⟨E, hE7⟩ : ∃ E, E = D + 2 := ⟨_, rfl⟩
         have ob7 : Ob w7 E k A6 n6 c6 := by rw [hw7, hE7]; exact hob6.set k A6 n6 c6
         have hb9 : Below wb.heap.size wb w7 := by rw [hw7]; exact (hb7.setCell (p := ⟨D + 2, 0, none⟩) (Nat.le_of_eq hsz) _).setCell (p := ⟨D + 2, 1, none⟩) (Nat.le_of_eq hsz) _
         have hz7 : Zs .u64 w7 A6 n6 c6 bs := by rw [hw7]; exact zs_set2 hz6 o0 o1 rfl _ _
         rw [← hw7, ← hE7])
      | (obtain ⟨w7, hw7⟩ : ∃ w7, w7 = w6.alloc (.cells #[.int .i64 k, .slice A6 n6 c6] 93) := ⟨_, rfl⟩
         obtain ⟨E, hE7⟩ : ∃ E, E = w6.heap.size := ⟨_, rfl⟩
         have ob7 : Ob w7 E k A6 n6 c6 := by rw [hw7, hE7]; exact Ob.new _ _ _ _ _
         have hb9 : Below wb.heap.size wb w7 := by rw [hw7]; exact hb8 _
         have hz7 : Zs .u64 w7 A6 n6 c6 bs := by rw [hw7]; exact hz6.below ((Below.refl _ w6).alloc (Nat.le_refl _) _)
         rw [← hw7, ← hE7])
    obtain ⟨⟨_, _, _, r0, r1, r2⟩, hS7⟩ := KV.out w7 hb9
    have HC := Lib.hid (HTx.out w7 A6 n6 c6 hS7 hz7)
    have HB7 : Hid (Below D w w7) := Lib.hid (HB.out.trans (hb9.mono (by have h9 := HB.out.size; rw [hD.out] at h9; exact h9)))
    have p0 := ob7.c0
    have p1 := ob7.c1
    clear hw7 hE7 ob7 hb9 hS7 hz7 hz6 hb6 hb7 KV HTx HOu q0 q1
    cases okb with
    | false =>
      have HR := hres.out
      rw [if_pos rfl] at HR
      replace HR := Lib.hid HR
      clear hres
      go_wp2_with (go_at_call 87; (with_reducible refine HC.out.mono ?_); rintro e w8 ⟨rfl, hb8⟩; replace hb8 := Lib.hid hb8)
      go_ret2
      exact ⟨by rw [HR.out]; rfl, by rw [hD.out]; exact HB7.out.trans (hb8.out.mono (by have h9 := HB7.out.size; rw [hD.out] at h9; exact h9))⟩
    | true =>
      have HR := hres.out
      rw [if_neg (by simp)] at HR
      replace HR := Lib.hid HR
      have hsz2 := hsize.out rfl
      have hi1 : (f : Int) + (m : Int) ≤ (tx.size : Int) := by omega
      have hi2 : (f : Int) ≤ (f : Int) + (m : Int) := by omega
      have hi3 : 0 ≤ (f : Int) + (m : Int) := by omega
      have hi4 : ((f : Int) + (m : Int)).toNat = f + m := by omega
      have hi5 : (f : Int) + (m : Int) ≤ 400 := by omega
      clear hres hsize hsz2
      go_wp2_with (go_at_call 87; (with_reducible refine HC.out.mono ?_); rintro e w8 ⟨rfl, hb8⟩; replace hb8 := Lib.hid hb8)
      go_ret2
      exact ⟨by rw [HR.out]; rfl, by rw [hD.out]; exact HB7.out.trans (hb8.out.mono (by have h9 := HB7.out.size; rw [hD.out] at h9; exact h9))⟩

set_option maxRecDepth 100000 in
/-- text of an object that is formed. -/
theorem text_any {w : World} {gs : List Frg} {mv : Value} (hM : Mm w gs mv) (hgs : ∀ f ∈ gs, f.ws.length ≤ 1000) {SA : Option Addr} {sm sc : Nat} {S : List Slt} (hS : SLs w SA sm sc S) (hsm : sm ≤ 1000) {A : Option Addr} {n c : Nat} {ws : List Int} (kv : Value) (h : Zs .u64 w A n c ws) (hn : n ≤ 1000) (k : Int) (hk : k = 3 ∨ k = 4 ∨ k = 5) (hf : formO gs k ws = true) :
    Calls Tryz.prog 87 #[.agg #[mv, .slice SA sm sc, kv], .agg #[.int .i64 k, .slice A n c]] w (TxP w (txO gs S k ws)) := by
  unfold formO at hf
  unfold txO
  rcases hk with rfl | rfl | rfl
  · exact text_H S mv kv h hn hf
  · exact text_C hS hsm mv kv h hf
  · exact text_S hM hgs hS hsm kv h hf
end Go.Proofs.YtejmmjedognaaaaGreat
