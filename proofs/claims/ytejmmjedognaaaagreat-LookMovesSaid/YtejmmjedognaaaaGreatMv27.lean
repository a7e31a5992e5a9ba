/-
  PACKAGE look: isBig, isRefc, bytesOf.
  PACKAGE look: isSub, formed, objectAt.
  PACKAGE look: formed, objectAt.
-/
import Derived.Test.YtejmmjedognaaaaGreatMv26
namespace Go.Proofs.YtejmmjedognaaaaGreat
open Go.RowKit
open St

set_option maxRecDepth 100000 in
theorem bgT_ok {ws : List Int} (h : ws.length ≤ 100) : (bgT ws).Ok := by
  unfold bgT
  rw [Tm.ok_mk]
  have h1 := bgM_len (bgl (ws.drop 1))
  rw [bgl_len, List.length_drop] at h1
  exact ⟨by omega, by simp [ByteArray.size], fun t ht => by cases ht⟩

set_option maxRecDepth 100000 in
set_option maxRecDepth 100000 in
set_option maxHeartbeats 4000000 in
theorem isBig_any {w : World} {A : Option Addr} {m c : Nat} {ws : List Int} (h : Zs .u64 w A m c ws) (hm : m ≤ 1000) :
    Calls Tryz.prog 115 #[.slice A m c] w fun e w' => e = .returned (.bool (bgB ws)) ∧ Below w.heap.size w w' := by
  have hl := h.len
  have hnc := h.nc
  have hcm : c ≤ 9223372036854775807 := h.cm
  by_cases h2 : m < 2
  · have HV : Hid (bgB ws = false) := Lib.hid (by unfold bgB; rw [hl, decide_eq_false (by omega)]; rfl)
    have hd1 : decide ((1 : Int) ≤ (m : Int) - 1) = false := decide_eq_false (by omega)
    clear h hl
    go_enter Tryz.func115, Tryz.ntmps115
    go_wp2
    go_ret
    exact ⟨by rw [HV.out]; rfl, Below.refl _ _⟩
  · have hd1 : decide ((1 : Int) ≤ (m : Int) - 1) = true := decide_eq_true (by omega)
    by_cases h5 : 5 < m
    · have HV : Hid (bgB ws = false) := Lib.hid (by unfold bgB; rw [hl, decide_eq_true (p := 2 ≤ m) (by omega), decide_eq_false (by omega)]; rfl)
      have hd2 : decide ((m : Int) - 1 ≤ 4) = false := decide_eq_false (by omega)
      clear h hl
      go_enter Tryz.func115, Tryz.ntmps115
      go_wp2
      go_ret
      exact ⟨by rw [HV.out]; rfl, Below.refl _ _⟩
    · have hd2 : decide ((m : Int) - 1 ≤ 4) = true := decide_eq_true (by omega)
      obtain ⟨b, o, hA, _⟩ := h.some (by omega)
      subst hA
      have y0 : w.cell? ⟨b, o, none⟩ = some (.int .u64 (ws.getD 0 0)) := by simpa using h.at_ (j := 0) (by omega)
      have hx := wf_u (h.wfAt (j := 0) (by omega))
      have hm0 : (0 : Int) < (m : Int) := by omega
      by_cases h1 : ws.getD 0 0 ≤ 1
      · have HV : Hid (bgB ws = (bgT ws).mayB) := Lib.hid (by unfold bgB; rw [hl, decide_eq_true (p := 2 ≤ m) (by omega), decide_eq_true (p := m ≤ 5) (by omega), decide_eq_true h1]; rfl)
        have HBig := Lib.hid (big_any h (k := m - 1) (by omega) (by omega) (by omega))
        have HOk := Lib.hid (bgT_ok (ws := ws) (by omega))
        have hd3 : decide (ws.getD 0 0 ≤ 1) = true := decide_eq_true h1
        clear h hl h1
        generalize ws.getD 0 0 = x at *
        generalize bgT ws = t at *
        go_enter Tryz.func115, Tryz.ntmps115
        go_wp2_with (first
          | (go_at_call 86; (with_reducible refine HBig.out.mono ?_); rintro e w1 ⟨R, rfl, hT, -, -, hb1⟩; have HM := Lib.hid (mayTerm_any w1 R t hT HOk.out); replace hb1 := Lib.hid hb1; clear hT)
          | (go_at_call 143; (with_reducible refine HM.out.mono ?_); rintro e w2 ⟨rfl, hb2⟩; replace hb2 := Lib.hid hb2))
        go_ret
        exact ⟨by rw [HV.out]; rfl, hb1.out.trans (hb2.out.mono hb1.out.size)⟩
      · have HV : Hid (bgB ws = false) := Lib.hid (by unfold bgB; rw [decide_eq_false h1, Bool.false_and, Bool.and_false])
        have hd3 : decide (ws.getD 0 0 ≤ 1) = false := decide_eq_false h1
        clear h hl h1
        generalize ws.getD 0 0 = x at *
        go_enter Tryz.func115, Tryz.ntmps115
        go_wp2
        go_ret
        exact ⟨by rw [HV.out]; rfl, Below.refl _ _⟩

set_option maxRecDepth 100000 in
theorem rfB_ne {ws : List Int} (h : ws.length ≠ 3) : (byR [] false 4 ws).2.2 = false := by
  unfold byR
  rw [if_neg (by omega), if_neg (by omega)]
set_option maxRecDepth 100000 in
theorem rfB_eq {ws : List Int} (h : ws.length = 3) (h0 : 0 ≤ ws.getD 0 0) (h1 : 0 ≤ ws.getD 1 0) (h2 : 0 ≤ ws.getD 2 0) :
    (byR [] false 4 ws).2.2 = ((decide (ws.getD 0 0 ≤ 1073741824) && decide (ws.getD 1 0 ≤ 1073741824)) && decide (ws.getD 2 0 ≤ 400)) := by
  unfold byR
  rw [if_neg (by omega), if_pos ⟨rfl, h⟩]
  unfold byC
  have ey : ∀ x m : Int, x ≤ m → smlZ x m = x := fun x m hx => if_neg (by omega)
  have en : ∀ x m : Int, ¬ x ≤ m → smlZ x m = -1 := fun x m hx => if_pos (by omega)
  by_cases c0 : ws.getD 0 0 ≤ 1073741824
  · by_cases c1 : ws.getD 1 0 ≤ 1073741824
    · by_cases c2 : ws.getD 2 0 ≤ 400
      · rw [if_neg (by rw [ey _ _ c0, ey _ _ c1, ey _ _ c2]; omega), decide_eq_true c0, decide_eq_true c1, decide_eq_true c2]
        rfl
      · rw [if_pos (by rw [en _ _ c2]; omega), decide_eq_false c2, Bool.and_false]
    · rw [if_pos (by rw [en _ _ c1]; omega), decide_eq_false c1, Bool.and_false, Bool.false_and]
  · rw [if_pos (by rw [en _ _ c0]; omega), decide_eq_false c0, Bool.false_and, Bool.false_and]

set_option maxRecDepth 100000 in
set_option maxRecDepth 100000 in
set_option maxHeartbeats 4000000 in
theorem isRefc_any {w : World} {A : Option Addr} {m c : Nat} {ws : List Int} (h : Zs .u64 w A m c ws) (hm : m ≤ 1000) :
    Calls Tryz.prog 118 #[.slice A m c] w fun e w' => e = .returned (.bool (byR [] false 4 ws).2.2) ∧ w' = w := by
  have hl := h.len
  by_cases h3 : m = 3
  · subst h3
    obtain ⟨b, o, hA, _⟩ := h.some (by omega)
    subst hA
    have y0 : w.cell? ⟨b, o, none⟩ = some (.int .u64 (ws.getD 0 0)) := by simpa using h.at_ (j := 0) (by omega)
    have y1 : w.cell? ⟨b, o + 1, none⟩ = some (.int .u64 (ws.getD 1 0)) := h.at_ (j := 1) (by omega)
    have y2 : w.cell? ⟨b, o + 2, none⟩ = some (.int .u64 (ws.getD 2 0)) := h.at_ (j := 2) (by omega)
    have HV := Lib.hid (rfB_eq hl (wf_u (h.wfAt (j := 0) (by omega))).1 (wf_u (h.wfAt (j := 1) (by omega))).1 (wf_u (h.wfAt (j := 2) (by omega))).1)
    clear h hl
    generalize ws.getD 0 0 = x0 at *
    generalize ws.getD 1 0 = x1 at *
    generalize ws.getD 2 0 = x2 at *
    cases c0 : decide (x0 ≤ 1073741824) with
    | false =>
      rw [c0] at HV
      go_enter Tryz.func118, Tryz.ntmps118
      go_wp2
      go_ret
      exact ⟨by rw [HV.out]; rfl, rfl⟩
    | true =>
      cases c1 : decide (x1 ≤ 1073741824) with
      | false =>
        rw [c0, c1] at HV
        go_enter Tryz.func118, Tryz.ntmps118
        go_wp2
        go_ret
        exact ⟨by rw [HV.out]; rfl, rfl⟩
      | true =>
        rw [c0, c1] at HV
        obtain ⟨bb, hbb⟩ : ∃ bb, decide (x2 ≤ 400) = bb := ⟨_, rfl⟩
        rw [hbb] at HV
        go_enter Tryz.func118, Tryz.ntmps118
        go_wp2
        go_ret
        exact ⟨by rw [HV.out]; rfl, rfl⟩
  · have hd1 : ((m : Int) == 3) = false := beq_eq_false_iff_ne.2 (by omega)
    have HV := Lib.hid (rfB_ne (ws := ws) (by omega))
    clear h hl
    go_enter Tryz.func118, Tryz.ntmps118
    go_wp2
    go_ret
    exact ⟨by rw [HV.out]; rfl, rfl⟩

set_option maxRecDepth 100000 in
set_option maxRecDepth 100000 in
set_option maxHeartbeats 4000000 in
theorem bytesOf_H {w : World} {A : Option Addr} {n c : Nat} {ws : List Int} (h : Zs .u64 w A n c ws) (hn : 1 ≤ n) :
    Calls Tryz.prog 145 #[.agg #[.int .i64 3, .slice A n c]] w fun e w' => e = .returned (.int .u64 (ws.getD 0 0)) ∧ Below w.heap.size w w' := by
  have hb : ∀ o : Obj, Below w.heap.size w (w.alloc o) := fun o => (Below.refl _ w).alloc (Nat.le_refl _) o
  have ob := Ob.new w 3 A n c
  have ha := h.below (hb (.cells #[.int .i64 3, .slice A n c] 93))
  obtain ⟨b, o, hA, _⟩ := ha.some (by omega)
  subst hA
  have y0 : (w.alloc (.cells #[.int .i64 3, .slice (some ⟨b, o, none⟩) n c] 93)).cell? ⟨b, o, none⟩ = some (.int .u64 (ws.getD 0 0)) := by simpa using ha.at_ (j := 0) (by omega)
  have hn0 : (0 : Int) < (n : Int) := by omega
  have q0 := ob.c0
  have q1 := ob.c1
  have HB := Lib.hid (hb (.cells #[.int .i64 3, .slice (some ⟨b, o, none⟩) n c] 93))
  clear h ha ob hb
  generalize ws.getD 0 0 = x0 at *
  go_enter Tryz.func145, Tryz.ntmps145
  go_upto_region 1 with fail
  generalize w.alloc (.cells #[.int .i64 3, .slice (some ⟨b, o, none⟩) n c] 93) = wa at *
  go_wp2
  go_ret
  exact ⟨rfl, HB.out⟩
set_option maxRecDepth 100000 in
set_option maxRecDepth 100000 in
set_option maxHeartbeats 4000000 in
theorem bytesOf_C {w : World} {A : Option Addr} {c : Nat} {ws : List Int} (h : Zs .u64 w A 3 c ws) :
    Calls Tryz.prog 145 #[.agg #[.int .i64 4, .slice A 3 c]] w fun e w' => e = .returned (.int .u64 (ws.getD 2 0)) ∧ Below w.heap.size w w' := by
  have hb : ∀ o : Obj, Below w.heap.size w (w.alloc o) := fun o => (Below.refl _ w).alloc (Nat.le_refl _) o
  have ob := Ob.new w 4 A 3 c
  have ha := h.below (hb (.cells #[.int .i64 4, .slice A 3 c] 93))
  obtain ⟨b, o, hA, _⟩ := ha.some (by omega)
  subst hA
  have y2 := ha.at_ (j := 2) (by omega)
  have q0 := ob.c0
  have q1 := ob.c1
  have HB := Lib.hid (hb (.cells #[.int .i64 4, .slice (some ⟨b, o, none⟩) 3 c] 93))
  clear h ha ob hb
  generalize ws.getD 2 0 = x2 at *
  go_enter Tryz.func145, Tryz.ntmps145
  go_upto_region 1 with fail
  generalize w.alloc (.cells #[.int .i64 4, .slice (some ⟨b, o, none⟩) 3 c] 93) = wa at *
  go_wp2
  go_ret
  exact ⟨rfl, HB.out⟩
end Go.Proofs.YtejmmjedognaaaaGreat

namespace Go.Proofs.YtejmmjedognaaaaGreat
open Go.RowKit
open St

set_option maxRecDepth 100000 in
theorem outline_none {w : World} {gs : List Frg} {m : Value} (h : Mm w gs m) (x : Int) (hx : Wd x) (ho : outO gs x = none) : Calls Tryz.prog 84 #[m, .int .u64 x] w fun e w' => e = .returned (.tuple #[.agg #[.int .i64 0, .slice none 0 0], .bool false]) ∧ Below w.heap.size w w' :=
  (outline_any h x hx).mono fun e w' hh => by
    obtain ⟨⟨_, he⟩ | ⟨k, ws, A, n, c, hk, _⟩, hb⟩ := hh
    · exact ⟨he, hb⟩
    · rw [ho] at hk; cases hk
set_option maxRecDepth 100000 in
theorem outline_some {w : World} {gs : List Frg} {m : Value} (h : Mm w gs m) (x : Int) (hx : Wd x) {k : Int} {ws : List Int} (ho : outO gs x = some (k, ws)) : Calls Tryz.prog 84 #[m, .int .u64 x] w fun e w' => ∃ A n c, e = .returned (.tuple #[.agg #[.int .i64 k, .slice A n c], .bool true]) ∧ Zs .u64 w' A n c ws ∧ Below w.heap.size w w' :=
  (outline_any h x hx).mono fun e w' hh => by
    obtain ⟨⟨hk, _⟩ | ⟨k', ws', A, n, c, hk, he, hz⟩, hb⟩ := hh
    · rw [ho] at hk; cases hk
    · rw [ho] at hk
      cases hk
      exact ⟨A, n, c, he, hz, hb⟩
set_option maxRecDepth 100000 in
theorem outO_len {gs : List Frg} {x : Int} {M : Nat} (h : ∀ f ∈ gs, f.ws.length ≤ M) {kd : Int} {ws : List Int} (hb : outO gs x = some (kd, ws)) : ws.length ≤ M := by
  unfold outO at hb
  split at hb
  · split at hb
    · cases hb
    · cases hb
      have := atL_len (a := ldZ x) h
      rw [List.length_take]
      omega
  · exact boxO_len h hb

/-- How many bytes an object has. -/
def nbO (k : Int) (ws : List Int) : Int := if k = 3 then ws.getD 0 0 else ws.getD 2 0
set_option maxRecDepth 100000 in
/-- Is a HeadSub formed? -/
theorem sub_ne {gs : List Frg} {ws : List Int} (h : ws.length ≠ 3) : (subR gs [] false ws).2 = false := by
  unfold subR
  rw [if_pos h]
set_option maxRecDepth 100000 in
theorem sub_boxO {gs : List Frg} {ws : List Int} (h : ws.length = 3) (hb : ∀ k b, boxO gs (ws.getD 0 0) = some (k, b) → (byR [] false k b).2.2 = false) : (subR gs [] false ws).2 = false := by
  unfold subR
  rw [if_neg (by omega)]
  unfold sbZ
  cases e : boxO gs (ws.getD 0 0) with
  | none => rfl
  | some p =>
    obtain ⟨k, b⟩ := p
    simp only
    split
    · rfl
    · rw [if_pos (.inl (hb k b e))]
set_option maxRecDepth 100000 in
theorem byF_3 {k : Int} {b : List Int} (h : (byR [] false k b).2.2 = true) : k = 3 ∨ k = 4 := by
  unfold byR at h
  split at h
  · next h1 => exact .inl h1.1
  · split at h
    · next h1 => exact .inr h1.1
    · cases h
set_option maxRecDepth 100000 in
theorem by_nb {k : Int} {b : List Int} (h : (byR [] false k b).2.2 = true) : (byR [] false k b).2.1 = nbO k b ∧ (k = 3 → 1 ≤ b.length) ∧ (k = 4 → b.length = 3) := by
  unfold nbO
  unfold byR at h ⊢
  by_cases h1 : k = 3 ∧ 1 ≤ b.length
  · rw [if_pos h1] at h ⊢
    rw [if_pos h1.1]
    refine ⟨?_, fun _ => h1.2, fun e => by omega⟩
    unfold byH at h ⊢
    by_cases h2 : smlZ (b.getD 0 0) 64 < 0
    · rw [if_pos h2] at h; cases h
    · rw [if_neg h2] at h ⊢
      have e : smlZ (b.getD 0 0) 64 = b.getD 0 0 := by
        unfold smlZ at h2 ⊢
        split
        · next h3 => rw [if_pos h3] at h2; omega
        · rfl
      cases hp : pkO (b.drop 1) (smlZ (b.getD 0 0) 64).toNat with
      | none => rw [hp] at h; cases h
      | some l => rw [e]
  · rw [if_neg h1] at h ⊢
    by_cases h2 : k = 4 ∧ b.length = 3
    · rw [if_pos h2] at h ⊢
      rw [if_neg (by omega)]
      refine ⟨?_, fun e => by omega, fun _ => h2.2⟩
      unfold byC at h ⊢
      by_cases h3 : smlZ (b.getD 0 0) 1073741824 < 0 ∨ smlZ (b.getD 1 0) 1073741824 < 0 ∨ smlZ (b.getD 2 0) 400 < 0
      · rw [if_pos h3] at h; cases h
      · rw [if_neg h3] at h ⊢
        rw [if_pos rfl]
        show smlZ (b.getD 2 0) 400 = b.getD 2 0
        have h4 : ¬ smlZ (b.getD 2 0) 400 < 0 := fun e => h3 (.inr (.inr e))
        unfold smlZ at h4 ⊢
        split
        · next h5 => rw [if_pos h5] at h4; omega
        · rfl
    · rw [if_neg h2] at h; cases h
set_option maxRecDepth 100000 in
/-- A HeadSub over an object that is formed. -/
theorem sub_eq {gs : List Frg} {ws : List Int} (h : ws.length = 3) {k : Int} {b : List Int} (hb : boxO gs (ws.getD 0 0) = some (k, b)) (hf : (byR [] false k b).2.2 = true) (h1 : 0 ≤ ws.getD 1 0) (h2 : 0 ≤ ws.getD 2 0) :
    (subR gs [] false ws).2 = (decide (ws.getD 1 0 ≤ nbO k b) && decide (ws.getD 2 0 ≤ nbO k b - ws.getD 1 0)) := by
  have hn := (by_nb hf).1
  have hk := (byR_ok hf).1
  rw [hn] at hk
  unfold subR
  rw [if_neg (by omega), hb]
  unfold sbZ
  simp only
  rw [hn, hf]
  by_cases c1 : ws.getD 1 0 ≤ 400
  · rw [show smlZ (ws.getD 1 0) 400 = ws.getD 1 0 from if_neg (by omega)]
    by_cases c2 : ws.getD 2 0 ≤ 400
    · rw [show smlZ (ws.getD 2 0) 400 = ws.getD 2 0 from if_neg (by omega), if_neg (by omega)]
      by_cases c3 : nbO k b - ws.getD 1 0 < ws.getD 2 0
      · rw [if_pos (.inr c3)]
        rw [decide_eq_false (p := ws.getD 2 0 ≤ nbO k b - ws.getD 1 0) (by omega), Bool.and_false]
      · rw [if_neg (by
          rintro (e | e)
          · cases e
          · exact c3 e), decide_eq_true (by omega), decide_eq_true (by omega)]
        split <;> rfl
    · rw [if_pos (by rw [show smlZ (ws.getD 2 0) 400 = -1 from if_pos (by omega)]; omega)]
      rw [decide_eq_false (p := ws.getD 2 0 ≤ nbO k b - ws.getD 1 0) (by omega), Bool.and_false]
  · rw [if_pos (by rw [show smlZ (ws.getD 1 0) 400 = -1 from if_pos (by omega)]; omega)]
    rw [decide_eq_false (p := ws.getD 1 0 ≤ nbO k b) (by omega), Bool.false_and]

set_option maxRecDepth 100000 in
set_option maxRecDepth 100000 in
set_option maxHeartbeats 8000000 in
theorem formed_H {w : World} {A : Option Addr} {n c : Nat} {ws : List Int} (mv : Value) (h : Zs .u64 w A n c ws) (hn : n ≤ 1000) (k : Int) (hk : k = 3 ∨ k = 4) :
    Calls Tryz.prog 85 #[mv, .agg #[.int .i64 k, .slice A n c]] w fun e w' => e = .returned (.bool (byR [] false k ws).2.2) ∧ Below w.heap.size w w' := by
  obtain ⟨wa, hwa⟩ : ∃ wa, wa = w.alloc (.cells #[.int .i64 k, .slice A n c] 93) := ⟨_, rfl⟩
  have hba : Below w.heap.size w wa := by rw [hwa]; exact (Below.refl _ w).alloc (Nat.le_refl _) _
  have ob : Ob wa w.heap.size k A n c := by rw [hwa]; exact Ob.new _ _ _ _ _
  have q0 := ob.c0
  have q1 := ob.c1
  have HBy := Lib.hid (isBytes_any (h.below hba) hn)
  have HRc := Lib.hid (isRefc_any (h.below hba) hn)
  have HB := Lib.hid hba
  clear h hba ob
  rcases hk with rfl | rfl
  · generalize hr : (byR [] false 3 ws).2.2 = r3 at *
    clear hr
    go_enter Tryz.func85, Tryz.ntmps85
    go_upto_region 1 with fail
    rw [← hwa]
    clear hwa
    go_wp2_with (go_at_call 117; (with_reducible refine HBy.out.mono ?_); rintro e w1 ⟨rfl, hb1⟩; replace hb1 := Lib.hid hb1)
    go_ret
    exact ⟨rfl, HB.out.trans (hb1.out.mono HB.out.size)⟩
  · generalize hr : (byR [] false 4 ws).2.2 = r4 at *
    clear hr
    go_enter Tryz.func85, Tryz.ntmps85
    go_upto_region 1 with fail
    rw [← hwa]
    clear hwa
    go_wp2_with (go_at_call 118; (with_reducible refine HRc.out.mono ?_); rintro e w1 ⟨rfl, rfl⟩)
    go_ret
    exact ⟨rfl, HB.out⟩

set_option maxRecDepth 100000 in
set_option maxRecDepth 100000 in
set_option maxHeartbeats 8000000 in
theorem isSub_any {w : World} {gs : List Frg} {mv : Value} {A : Option Addr} {n c : Nat} {ws : List Int} (hM : Mm w gs mv) (hgs : ∀ f ∈ gs, f.ws.length ≤ 1000) (h : Zs .u64 w A n c ws) (hn : n ≤ 1000) :
    Calls Tryz.prog 119 #[mv, .slice A n c] w fun e w' => e = .returned (.bool (subR gs [] false ws).2) ∧ Below w.heap.size w w' := by
  have hl := h.len
  by_cases h3 : n = 3
  · subst h3
    obtain ⟨b, o, hA, _⟩ := h.some (by omega)
    subst hA
    have KV : Hid (∀ w', Below w.heap.size w w' → w'.cell? ⟨b, o, none⟩ = some (.int .u64 (ws.getD 0 0)) ∧ w'.cell? ⟨b, o + 1, none⟩ = some (.int .u64 (ws.getD 1 0)) ∧ w'.cell? ⟨b, o + 2, none⟩ = some (.int .u64 (ws.getD 2 0))) := Lib.hid (fun w' hb =>
      ⟨by simpa using (h.below hb).at_ (j := 0) (by omega), (h.below hb).at_ (j := 1) (by omega), (h.below hb).at_ (j := 2) (by omega)⟩)
    obtain ⟨y0, _, _⟩ := KV.out w (Below.refl _ _)
    have hx0 := wf_u (h.wfAt (j := 0) (by omega))
    have hx1 := wf_u (h.wfAt (j := 1) (by omega))
    have hx2 := wf_u (h.wfAt (j := 2) (by omega))
    obtain ⟨res, hres⟩ : ∃ res, res = (subR gs [] false ws).2 := ⟨_, rfl⟩
    rw [← hres]
    have HNo : Hid ((∀ k b', boxO gs (ws.getD 0 0) = some (k, b') → (byR [] false k b').2.2 = false) → res = false) := Lib.hid (fun hh => by rw [hres]; exact sub_boxO hl hh)
    have HYes : Hid (∀ k b', boxO gs (ws.getD 0 0) = some (k, b') → (byR [] false k b').2.2 = true → res = (decide (ws.getD 1 0 ≤ nbO k b') && decide (ws.getD 2 0 ≤ nbO k b' - ws.getD 1 0))) := Lib.hid (fun k b' h1 h2 => by rw [hres]; exact sub_eq hl h1 h2 hx1.1 hx2.1)
    have HON := Lib.hid (fun (hh : outO gs (ws.getD 0 0) = none) => outline_none hM (ws.getD 0 0) hx0 hh)
    have HOS := Lib.hid (fun k b' (hh : outO gs (ws.getD 0 0) = some (k, b')) => outline_some hM (ws.getD 0 0) hx0 hh)
    have hob : ∀ k b', outO gs (ws.getD 0 0) = some (k, b') → (k = 3 ∨ k = 4) → boxO gs (ws.getD 0 0) = some (k, b') := fun k b' h1 h2 => by
      unfold outO at h1
      split at h1
      · split at h1
        · cases h1
        · cases h1; omega
      · exact h1
    have hbo : ∀ k b', boxO gs (ws.getD 0 0) = some (k, b') → outO gs (ws.getD 0 0) = some (k, b') := fun k b' h1 => by
      unfold outO
      rw [if_neg (fun e => ?_)]
      · exact h1
      · unfold boxO at h1
        cases e2 : atL gs (ldZ (ws.getD 0 0)) with
        | nil => rw [e2] at h1; cases h1
        | cons a t =>
          rw [e2] at h1
          change (if ws.getD 0 0 % 8 = 4 ∧ ptB a = true ∧ a / 64 ≤ (t.length : Int) then some (a / 8 % 8, t.take (a / 64).toNat) else none) = some (k, b') at h1
          by_cases h9 : ws.getD 0 0 % 8 = 4 ∧ ptB a = true ∧ a / 64 ≤ (t.length : Int)
          · omega
          · rw [if_neg h9] at h1; cases h1
    have HOb := Lib.hid hob
    have HBo := Lib.hid hbo
    have HLen := Lib.hid (fun k b' (hh : outO gs (ws.getD 0 0) = some (k, b')) => outO_len hgs hh)
    clear hres h hl hM hob hbo
    generalize ws.getD 0 0 = x0 at *
    generalize ws.getD 1 0 = x1 at *
    generalize ws.getD 2 0 = x2 at *
    cases ho : outO gs x0 with
    | none =>
      have HV : Hid (res = false) := Lib.hid (HNo.out (fun k b' hh => by rw [HBo.out k b' hh] at ho; cases ho))
      have HOu := Lib.hid (HON.out ho)
      clear HNo HYes KV HOb HBo HLen ho HON HOS
      go_enter Tryz.func119, Tryz.ntmps119
      go_wp2_with (go_at_call 84; (with_reducible refine HOu.out.mono ?_); rintro e w1 ⟨rfl, hb1⟩; replace hb1 := Lib.hid hb1)
      go_ret
      exact ⟨by rw [HV.out]; rfl, hb1.out.alloc hb1.out.size _⟩
    | some p =>
      obtain ⟨k, bs⟩ := p
      have hbl := HLen.out k bs ho
      have HOu := Lib.hid (HOS.out k bs ho)
      go_enter Tryz.func119, Tryz.ntmps119
      go_upto_region 4 with (go_at_call 84; (with_reducible refine HOu.out.mono ?_); rintro e w1 ⟨A', n', c', rfl, hz, hb1⟩)
      obtain ⟨w2, hw2⟩ : ∃ w2, w2 = w1.alloc (.cells #[.int .i64 k, .slice A' n' c'] 93) := ⟨_, rfl⟩
      rw [← hw2]
      have hb2 : Below w1.heap.size w1 w2 := by rw [hw2]; exact (Below.refl _ w1).alloc (Nat.le_refl _) _
      have ob : Ob w2 w1.heap.size k A' n' c' := by rw [hw2]; exact Ob.new _ _ _ _ _
      have hB2 := hb1.trans (hb2.mono hb1.size)
      have hz2 := hz.below hb2
      have hl' := hz.len
      clear hw2 HON HOS HOu y0
      generalize hE : w1.heap.size = E at *
      have q0 := ob.c0
      have q1 := ob.c1
      by_cases hk : k = 3 ∨ k = 4
      · have HFm := Lib.hid (formed_H mv hz2 (by omega) k hk)
        cases hf : (byR [] false k bs).2.2 with
        | false =>
          rw [hf] at HFm
          have HV : Hid (res = false) := Lib.hid (HNo.out (fun k' b' hh => by
            have := HBo.out k' b' hh
            rw [ho] at this
            cases this
            exact hf))
          have HB2 := Lib.hid hB2
          clear HNo HYes KV HOb HBo HLen ho hf hz hz2 hb1 hb2 hB2 ob hbl hl'
          rcases hk with rfl | rfl
          all_goals
            go_wp2_with (go_at_call 85; (with_reducible refine HFm.out.mono ?_); rintro e w3 ⟨rfl, hb3⟩; replace hb3 := Lib.hid hb3)
            go_ret
            exact ⟨by rw [HV.out]; rfl, HB2.out.trans (hb3.out.mono HB2.out.size)⟩
        | true =>
          rw [hf] at HFm
          have HV := Lib.hid (HYes.out k bs (HOb.out k bs ho hk) hf)
          have hnb := by_nb hf
          have hnr := (byR_ok hf).1
          rw [hnb.1] at hnr
          have HB2 := Lib.hid hB2
          have HBO : Hid (∀ w', Below w2.heap.size w2 w' → Calls Tryz.prog 145 #[.agg #[.int .i64 k, .slice A' n' c']] w' fun e w'' => e = .returned (.int .u64 (nbO k bs)) ∧ Below w'.heap.size w' w'') := Lib.hid (fun w' hb => by
            rcases hk with rfl | rfl
            · exact bytesOf_H (hz2.below hb) (by have := hnb.2.1 rfl; omega)
            · have h3 : n' = 3 := by have := hnb.2.2 rfl; omega
              subst h3
              exact bytesOf_C (hz2.below hb))
          have KW : Hid (∀ w', Below w2.heap.size w2 w' → w'.cell? ⟨E, 0, none⟩ = some (.int .i64 k) ∧ w'.cell? ⟨E, 1, none⟩ = some (.slice A' n' c') ∧ w'.cell? ⟨b, o + 1, none⟩ = some (.int .u64 x1) ∧ w'.cell? ⟨b, o + 2, none⟩ = some (.int .u64 x2)) := Lib.hid (fun w' hb => by
            obtain ⟨_, z1, z2⟩ := KV.out w' (hB2.trans (hb.mono hB2.size))
            exact ⟨(ob.below hb ob.lt).c0, (ob.below hb ob.lt).c1, z1, z2⟩)
          have hd : ((k != 3) = false) ∨ ((k != 3) = true ∧ (k != 4) = false) := by
            rcases hk with rfl | rfl
            · exact .inl rfl
            · exact .inr ⟨rfl, rfl⟩
          generalize nbO k bs = nb at *
          clear hk HNo HYes KV HOb HBo HLen ho hf hz hz2 hb1 hb2 hB2 ob hbl hl' hnb
          rcases hd with hd3 | ⟨hd3, hd4⟩
          all_goals
            go_upto_region 6 with (go_at_call 85; (with_reducible refine HFm.out.mono ?_); rintro e w3 ⟨rfl, hb3⟩)
            have HB3 := Lib.hid (HB2.out.trans (hb3.mono HB2.out.size))
            have KX := Lib.hid (fun w' (hb : Below w3.heap.size w3 w') => KW.out w' (hb3.trans (hb.mono hb3.size)))
            have HC := Lib.hid (HBO.out (w3.drewN 1) (below_drewN hb3 1))
            clear q0 q1 KW HBO hb3
            go_region_held3 (fun w' => w'.cell? ⟨E, 0, none⟩ = some (.int .i64 k) ∧ w'.cell? ⟨E, 1, none⟩ = some (.slice A' n' c') ∧ w'.cell? ⟨b, o + 1, none⟩ = some (.int .u64 x1) ∧ w'.cell? ⟨b, o + 2, none⟩ = some (.int .u64 x2))
              (first | exact KX.out w3 (Below.refl _ _) | exact KX.out (w3.drewN 1) (bel_drewN w3 1) | exact KX.out w6 hb7)
              (first | (go_at_call 145; refine HC.out.mono ?_; rintro e w6 ⟨rfl, hb6⟩; have hb7 : Below w3.heap.size w3 w6 := (bel_drewN w3 1).trans hb6))
            all_goals
              cases c1 : decide (x1 ≤ nb) with
              | false =>
                rw [c1] at HV
                go_wp2
                go_ret
                exact ⟨by rw [HV.out]; rfl, HB3.out.trans (hb7.mono HB3.out.size)⟩
              | true =>
                have h9 := of_decide_eq_true c1
                rw [c1] at HV
                obtain ⟨bb, hbb⟩ : ∃ bb, decide (x2 ≤ nb - x1) = bb := ⟨_, rfl⟩
                rw [hbb] at HV
                go_wp2
                go_ret
                exact ⟨by rw [HV.out]; rfl, HB3.out.trans (hb7.mono HB3.out.size)⟩
      · have hd3 : (k != 3) = true := bne_iff_ne.2 (fun e => hk (.inl e))
        have hd4 : (k != 4) = true := bne_iff_ne.2 (fun e => hk (.inr e))
        have HV : Hid (res = false) := Lib.hid (HNo.out (fun k' b' hh => by
          have := HBo.out k' b' hh
          rw [ho] at this
          cases this
          cases hf : (byR [] false k bs).2.2 with
          | false => rfl
          | true => exact (hk (byF_3 hf)).elim))
        have HB2 := Lib.hid hB2
        clear HNo HYes KV HOb HBo HLen ho hz hz2 hb1 hb2 hB2 ob hbl hl' hk
        go_wp2
        go_ret
        exact ⟨by rw [HV.out]; rfl, HB2.out⟩
  · have hd1 : ((n : Int) != 3) = true := bne_iff_ne.2 (by omega)
    have HV := Lib.hid (sub_ne (gs := gs) (ws := ws) (by omega))
    clear h hl hM
    go_enter Tryz.func119, Tryz.ntmps119
    go_wp2
    go_ret
    exact ⟨by rw [HV.out]; rfl, Below.refl _ _⟩
end Go.Proofs.YtejmmjedognaaaaGreat

namespace Go.Proofs.YtejmmjedognaaaaGreat
open Go.RowKit
open St

set_option maxRecDepth 100000 in
set_option maxRecDepth 100000 in
set_option maxHeartbeats 8000000 in
theorem formed_any {w : World} {gs : List Frg} {mv : Value} {A : Option Addr} {n c : Nat} {ws : List Int} (hM : Mm w gs mv) (hgs : ∀ f ∈ gs, f.ws.length ≤ 1000) (h : Zs .u64 w A n c ws) (hn : n ≤ 1000) (k : Int) :
    Calls Tryz.prog 85 #[mv, .agg #[.int .i64 k, .slice A n c]] w fun e w' => e = .returned (.bool (formO gs k ws)) ∧ Below w.heap.size w w' := by
  by_cases h34 : k = 3 ∨ k = 4
  · have e : formO gs k ws = (byR [] false k ws).2.2 := by
      unfold formO
      rcases h34 with rfl | rfl <;> rfl
    rw [e]
    exact formed_H mv h hn k h34
  · obtain ⟨res, hres⟩ : ∃ res, res = formO gs k ws := ⟨_, rfl⟩
    rw [← hres]
    unfold formO at hres
    obtain ⟨wa, hwa⟩ : ∃ wa, wa = w.alloc (.cells #[.int .i64 k, .slice A n c] 93) := ⟨_, rfl⟩
    have hba : Below w.heap.size w wa := by rw [hwa]; exact (Below.refl _ w).alloc (Nat.le_refl _) _
    have ob : Ob wa w.heap.size k A n c := by rw [hwa]; exact Ob.new _ _ _ _ _
    have q0 := ob.c0
    have q1 := ob.c1
    have hz := h.below hba
    have hl := h.len
    have HSub := Lib.hid (isSub_any (hM.below hba) hgs hz hn)
    have HBig := Lib.hid (isBig_any hz hn)
    have HB := Lib.hid hba
    replace hz := Lib.hid hz
    clear h hM ob hba
    by_cases h0 : k = -1
    · subst h0
      rw [if_pos rfl] at hres
      replace hres := Lib.hid hres
      go_enter Tryz.func85, Tryz.ntmps85
      go_upto_region 1 with fail
      rw [← hwa]
      clear hwa
      go_wp2
      go_ret
      exact ⟨by rw [hres.out]; rfl, HB.out⟩
    · rw [if_neg h0] at hres
      by_cases h1 : k = 0
      · subst h1
        rw [if_pos rfl, hl] at hres
        have hd : decide ((n : Int) ≤ 8) = decide (n ≤ 8) := by
          by_cases e : n ≤ 8
          · rw [decide_eq_true e, decide_eq_true (by omega)]
          · rw [decide_eq_false e, decide_eq_false (by omega)]
        rw [← hd] at hres
        obtain ⟨bb, hbb⟩ : ∃ bb, decide ((n : Int) ≤ 8) = bb := ⟨_, rfl⟩
        rw [hbb] at hres
        replace hres := Lib.hid hres
        clear hd
        go_enter Tryz.func85, Tryz.ntmps85
        go_upto_region 1 with fail
        rw [← hwa]
        clear hwa
        go_wp2
        go_ret
        exact ⟨by rw [hres.out]; rfl, HB.out⟩
      · rw [if_neg h1] at hres
        by_cases h2 : k = 1
        · subst h2
          rw [if_pos rfl] at hres
          rw [← hres] at HBig
          go_enter Tryz.func85, Tryz.ntmps85
          go_upto_region 1 with fail
          rw [← hwa]
          clear hwa hres
          go_wp2_with (go_at_call 115; (with_reducible refine HBig.out.mono ?_); rintro e w1 ⟨rfl, hb1⟩; replace hb1 := Lib.hid hb1)
          go_ret
          exact ⟨rfl, HB.out.trans (hb1.out.mono HB.out.size)⟩
        · rw [if_neg h2] at hres
          by_cases h3 : k = 2
          · subst h3
            rw [if_pos rfl, hl] at hres
            by_cases hn1 : n = 1
            · subst hn1
              obtain ⟨b, o, hA, _⟩ := hz.out.some (by omega)
              subst hA
              have y0 : wa.cell? ⟨b, o, none⟩ = some (.int .u64 (ws.getD 0 0)) := by simpa using hz.out.at_ (j := 0) (by omega)
              have hx := wf_u (hz.out.wfAt (j := 0) (by omega))
              have HMy := Lib.hid (fun w => may_flt w (ws.getD 0 0) (show U64 (ws.getD 0 0) from ⟨hx.1, by omega⟩))
              rw [decide_eq_true rfl, Bool.true_and] at hres
              rw [← hres] at HMy
              clear hz
              generalize ws.getD 0 0 = x at *
              go_enter Tryz.func85, Tryz.ntmps85
              go_upto_region 1 with fail
              rw [← hwa]
              clear hwa hres
              go_wp2_with (go_at_call 116; (with_reducible refine (HMy.out _).mono ?_); rintro e w1 ⟨rfl, rfl⟩)
              go_ret
              exact ⟨rfl, HB.out⟩
            · have hd : ((n : Int) == 1) = false := beq_eq_false_iff_ne.2 (by omega)
              rw [decide_eq_false hn1, Bool.false_and] at hres
              replace hres := Lib.hid hres
              go_enter Tryz.func85, Tryz.ntmps85
              go_upto_region 1 with fail
              rw [← hwa]
              clear hwa
              go_wp2
              go_ret
              exact ⟨by rw [hres.out]; rfl, HB.out⟩
          · rw [if_neg h3, if_neg (fun e => h34 (.inl e)), if_neg (fun e => h34 (.inr e))] at hres
            by_cases h5 : k = 5
            · subst h5
              rw [if_pos rfl] at hres
              rw [← hres] at HSub
              go_enter Tryz.func85, Tryz.ntmps85
              go_upto_region 1 with fail
              rw [← hwa]
              clear hwa hres
              go_wp2_with (go_at_call 119; (with_reducible refine HSub.out.mono ?_); rintro e w1 ⟨rfl, hb1⟩; replace hb1 := Lib.hid hb1)
              go_ret
              exact ⟨rfl, HB.out.trans (hb1.out.mono HB.out.size)⟩
            · rw [if_neg h5] at hres
              replace hres := Lib.hid hres
              have d0 : (k == -1) = false := beq_eq_false_iff_ne.2 h0
              have d1 : (k == 0) = false := beq_eq_false_iff_ne.2 h1
              have d2 : (k == 1) = false := beq_eq_false_iff_ne.2 h2
              have d3 : (k == 2) = false := beq_eq_false_iff_ne.2 h3
              have d4 : (k == 3) = false := beq_eq_false_iff_ne.2 (fun e => h34 (.inl e))
              have d5 : (k == 4) = false := beq_eq_false_iff_ne.2 (fun e => h34 (.inr e))
              have d6 : (k == 5) = false := beq_eq_false_iff_ne.2 h5
              clear h0 h1 h2 h3 h5 h34
              go_enter Tryz.func85, Tryz.ntmps85
              go_upto_region 1 with fail
              rw [← hwa]
              clear hwa
              go_wp2
              go_ret
              exact ⟨by rw [hres.out]; rfl, HB.out⟩

set_option maxRecDepth 100000 in
set_option maxRecDepth 100000 in
set_option maxHeartbeats 8000000 in
theorem objectAt_any {w : World} {gs : List Frg} {mv : Value} (hM : Mm w gs mv) (hgs : ∀ f ∈ gs, f.ws.length ≤ 1000) (x : Int) (hx : Wd x) :
    Calls Tryz.prog 55 #[mv, .int .u64 x] w (OuP w (objO gs x)) := by
  obtain ⟨wa, hwa⟩ : ∃ wa, wa = w.alloc (.cells #[.int .i64 0, .slice none 0 0] 93) := ⟨_, rfl⟩
  have hba : Below w.heap.size w wa := by rw [hwa]; exact (Below.refl _ w).alloc (Nat.le_refl _) _
  have ob : Ob wa w.heap.size 0 none 0 0 := by rw [hwa]; exact Ob.new _ _ _ _ _
  have hMa := hM.below hba
  have HON := Lib.hid (fun (hh : outO gs x = none) => outline_none hMa x hx hh)
  have HOS := Lib.hid (fun k b' (hh : outO gs x = some (k, b')) => outline_some hMa x hx hh)
  have HB := Lib.hid hba
  have HO := Lib.hid ob
  clear hba ob
  cases ho : outO gs x with
  | none =>
    have HN : Hid (objO gs x = none) := Lib.hid (by unfold objO; rw [ho])
    have HOu := Lib.hid (HON.out ho)
    clear HON HOS ho
    go_enter Tryz.func55, Tryz.ntmps55
    go_upto_region 1 with fail
    rw [← hwa]
    clear hwa
    generalize hD : w.heap.size = D at *
    replace hD := Lib.hid hD
    go_upto_region 2 with (go_at_call 84; (with_reducible refine HOu.out.mono ?_); rintro e w1 ⟨rfl, hb1⟩)
    obtain ⟨w2, hw2⟩ : ∃ w2, w2 = w1.alloc (.cells #[.int .i64 0, .slice none 0 0] 93) := ⟨_, rfl⟩
    rw [← hw2]
    have hb2 : Below w1.heap.size w1 w2 := by rw [hw2]; exact (Below.refl _ w1).alloc (Nat.le_refl _) _
    have hb12 := hb1.trans (hb2.mono hb1.size)
    have ob2 := HO.out.below hb12 HO.out.lt
    have HB2 : Hid (Below D w w2) := Lib.hid (HB.out.trans (hb12.mono (by have h9 := HB.out.size; rw [hD.out] at h9; exact h9)))
    have q0 := ob2.c0
    have q1 := ob2.c1
    have f0 := ob2.f0
    have f1 := ob2.f1
    clear hw2 hb1 hb2 hb12 HO
    go_wp2
    have zz := ob2.set 0 none 0 0
    have z2 := zz.c0
    have z3 := zz.c1
    exact bodyPost_ret (v := .tuple #[.agg #[.int .i64 0, .slice none 0 0], .bool false]) (by simp [results, Tryz.results55, go_sem, z2, z3]) rfl ⟨.inl ⟨HN.out, rfl⟩, by rw [hD.out]; exact below_set2 HB2.out (Nat.le_refl _) _ _⟩
  | some p =>
    obtain ⟨k, ws⟩ := p
    have HOu := Lib.hid (HOS.out k ws ho)
    have hl := outO_len hgs ho
    have HE : Hid (objO gs x = if formO gs k ws then some (k, ws) else none) := Lib.hid (by unfold objO; rw [ho])
    clear HON HOS ho
    go_enter Tryz.func55, Tryz.ntmps55
    go_upto_region 1 with fail
    rw [← hwa]
    clear hwa
    generalize hD : w.heap.size = D at *
    replace hD := Lib.hid hD
    go_upto_region 2 with (go_at_call 84; (with_reducible refine HOu.out.mono ?_); rintro e w1 ⟨A', n', c', rfl, hz, hb1⟩)
    obtain ⟨w2, hw2⟩ : ∃ w2, w2 = w1.alloc (.cells #[.int .i64 k, .slice A' n' c'] 93) := ⟨_, rfl⟩
    rw [← hw2]
    have hb2 : Below w1.heap.size w1 w2 := by rw [hw2]; exact (Below.refl _ w1).alloc (Nat.le_refl _) _
    have nb : Ob w2 w1.heap.size k A' n' c' := by rw [hw2]; exact Ob.new _ _ _ _ _
    have hb12 := hb1.trans (hb2.mono hb1.size)
    have hz2 := hz.below hb2
    have HF := Lib.hid (formed_any (hMa.below hb12) hgs hz2 (by have := hz.len; omega) k)
    have ob2 := HO.out.below hb12 HO.out.lt
    have HB2 : Hid (Below D w w2) := Lib.hid (HB.out.trans (hb12.mono (by have h9 := HB.out.size; rw [hD.out] at h9; exact h9)))
    have KV := Lib.hid (fun w' (hb : Below w2.heap.size w2 w') => And.intro (ob2.below hb ob2.lt) (And.intro (nb.below hb nb.lt) (And.intro (hz2.below hb) (HB2.out.trans (hb.mono (by have h9 := HB2.out.size; rw [hD.out] at h9; exact h9))))))
    have n0 := nb.c0
    have n1 := nb.c1
    generalize hE : w1.heap.size = E at *
    replace hE := Lib.hid hE
    clear hw2 hb1 hb2 hb12 HO hz hz2 nb ob2 hMa
    cases hf : formO gs k ws with
    | false =>
      rw [hf] at HF
      have HN : Hid (objO gs x = none) := Lib.hid (by rw [HE.out, hf]; rfl)
      clear HE hf
      go_wp2_with (go_at_call 85; (with_reducible refine HF.out.mono ?_); rintro e w3 ⟨rfl, hb3⟩; obtain ⟨ob3, nb3, hz3, HB3⟩ := KV.out w3 hb3; have q0 := ob3.c0; have q1 := ob3.c1; have f0 := ob3.f0; have f1 := ob3.f1; have m0 := nb3.c0; have m1 := nb3.c1; replace HB3 := Lib.hid HB3; clear n0 n1 hb3 hz3)
      have zz := ob3.set 0 none 0 0
      have z2 := zz.c0
      have z3 := zz.c1
      exact bodyPost_ret (v := .tuple #[.agg #[.int .i64 0, .slice none 0 0], .bool false]) (by simp [results, Tryz.results55, go_sem, z2, z3]) rfl ⟨.inl ⟨HN.out, rfl⟩, by rw [hD.out]; exact below_set2 HB3.out (Nat.le_refl _) _ _⟩
    | true =>
      rw [hf] at HF
      have HN : Hid (objO gs x = some (k, ws)) := Lib.hid (by rw [HE.out, hf]; rfl)
      clear HE hf
      go_wp2_with (go_at_call 85; (with_reducible refine HF.out.mono ?_); rintro e w3 ⟨rfl, hb3⟩; obtain ⟨ob3, nb3, hz3, HB3⟩ := KV.out w3 hb3; have q0 := ob3.c0; have q1 := ob3.c1; have f0 := ob3.f0; have f1 := ob3.f1; have m0 := nb3.c0; have m1 := nb3.c1; replace HB3 := Lib.hid HB3; replace hz3 := Lib.hid hz3; clear n0 n1 hb3)
      have zz := ob3.set k A' n' c'
      have z2 := zz.c0
      have z3 := zz.c1
      exact bodyPost_ret (v := .tuple #[.agg #[.int .i64 k, .slice A' n' c'], .bool true]) (by simp [results, Tryz.results55, go_sem, z2, z3]) rfl ⟨.inr ⟨_, _, _, _, _, HN.out, rfl, zs_set2 hz3.out q0 q1 rfl _ _⟩, by rw [hD.out]; exact below_set2 HB3.out (Nat.le_refl _) _ _⟩
end Go.Proofs.YtejmmjedognaaaaGreat
