/-
  PACKAGE look: isBytes.
  PACKAGE term: same of light terms (no classes are kept), Same of light terms.
  PACKAGE term: Same of light terms.
  ROWS OF TERMS THAT A CALL MAKES: appending to them.
-/
import Derived.Test.YtejmmjedognaaaaGreatMv24
import Derived.Test.YtejmmjedognaaaaGreatMv19
import Derived.Maps.AppendAt
namespace Go.Proofs.YtejmmjedognaaaaGreat
open Go.RowKit
open St

section
variable {ws : List Int} {n : Nat}
set_option maxRecDepth 100000 in
theorem byB_zero (h : ws.length = 0) : (byR [] false 3 ws).2.2 = false := by
  unfold byR
  rw [if_neg (by omega), if_neg (by omega)]
set_option maxRecDepth 100000 in
theorem byB_eq (h1 : 1 ≤ ws.length) (hn : ws.getD 0 0 = (n : Int)) (h6 : n ≤ 64) : (byR [] false 3 ws).2.2 = (pkO (ws.drop 1) n).isSome := by
  unfold byR
  rw [if_pos ⟨rfl, h1⟩]
  unfold byH smlZ
  rw [hn, if_neg (by omega), if_neg (by omega), Int.toNat_natCast]
  cases pkO (ws.drop 1) n <;> rfl
set_option maxRecDepth 100000 in
theorem byB_big (h1 : 1 ≤ ws.length) (hn : 64 < ws.getD 0 0) : (byR [] false 3 ws).2.2 = false := by
  unfold byR
  rw [if_pos ⟨rfl, h1⟩]
  unfold byH smlZ
  rw [if_pos hn, if_pos (by omega)]
set_option maxRecDepth 100000 in
theorem pkO_ne (h : ws.length ≠ (n + 7) / 8) : (pkO ws n).isSome = false := by
  unfold pkO
  rw [if_neg (fun e => h e.1)]
  rfl
set_option maxRecDepth 100000 in
theorem pkO_bad {j x : Nat} (hj : n ≤ j) (hx : (byts ws)[j]? = some x) (h0 : x ≠ 0) : (pkO ws n).isSome = false := by
  rw [pk_bad hj x hx h0]
  rfl
set_option maxRecDepth 100000 in
theorem pkO_ok (h : ws.length = (n + 7) / 8) (h0 : ∀ j, n ≤ j → j < ws.length * 8 → Lm.lg (byts ws) j = 0) : (pkO ws n).isSome = true := by
  unfold pkO
  have hc : ws.length = (n + 7) / 8 ∧ ∀ x ∈ (byts ws).drop n, x = 0 := ⟨h, fun x hx => ?_⟩
  · rw [if_pos hc]; rfl
  · obtain ⟨j, hj⟩ := List.getElem?_of_mem hx
    rw [List.getElem?_drop] at hj
    have hlt : n + j < (byts ws).length := (List.getElem?_eq_some_iff.1 hj).1
    have h2 := h0 (n + j) (by omega) (by rw [byts_len] at hlt; exact hlt)
    unfold Lm.lg at h2
    rw [List.getD_eq_getElem?_getD, hj] at h2
    exact h2
end

set_option maxRecDepth 100000 in
set_option maxRecDepth 100000 in
set_option maxHeartbeats 8000000 in
theorem isBytes_any {w : World} {A : Option Addr} {m c : Nat} {ws : List Int} (h : Zs .u64 w A m c ws) (hm : m ≤ 1000) :
    Calls Tryz.prog 117 #[.slice A m c] w fun e w' => e = .returned (.bool (byR [] false 3 ws).2.2) ∧ Below w.heap.size w w' := by
  have hl := h.len
  have hnc := h.nc
  have hcm : c ≤ 9223372036854775807 := h.cm
  rcases Nat.eq_zero_or_pos m with h0 | h0
  · subst h0
    rw [byB_zero hl]
    clear h hl
    go_enter Tryz.func117, Tryz.ntmps117
    go_wp2
    go_ret
    exact ⟨rfl, Below.refl _ _⟩
  · obtain ⟨b, o, hA, _⟩ := h.some h0
    subst hA
    have y0 : w.cell? ⟨b, o, none⟩ = some (.int .u64 (ws.getD 0 0)) := by simpa using h.at_ (j := 0) h0
    have hx := wf_u (h.wfAt (j := 0) h0)
    have hd1 : ((m : Int) == 0) = false := beq_eq_false_iff_ne.2 (by omega)
    have hm0 : (0 : Int) < (m : Int) := by omega
    by_cases h6 : 64 < ws.getD 0 0
    · rw [byB_big (by omega) h6]
      clear h hl
      generalize ws.getD 0 0 = x at *
      have hd2 : decide (64 < x) = true := decide_eq_true h6
      go_enter Tryz.func117, Tryz.ntmps117
      go_wp2
      go_ret
      exact ⟨rfl, Below.refl _ _⟩
    · obtain ⟨n, hn⟩ : ∃ n : Nat, ws.getD 0 0 = (n : Int) := ⟨(ws.getD 0 0).toNat, by omega⟩
      obtain ⟨k, hk⟩ : ∃ k, m = k + 1 := ⟨m - 1, by omega⟩
      have hn6 : n ≤ 64 := by omega
      rw [byB_eq (by omega) hn hn6]
      have HBI := Lib.hid (bytesIn_any h hk hm)
      have hzl : (ws.drop 1).length = k := by rw [List.length_drop]; omega
      rw [hn] at y0
      have hd2 : decide ((64 : Int) < (n : Int)) = false := decide_eq_false (by omega)
      have hE : (m : Int) - 1 = (k : Int) := by omega
      have hq : ((n : Int) + 8 - 1).tdiv 8 = (((n + 7) / 8 : Nat) : Int) := by
        rw [Int.tdiv_eq_ediv_of_nonneg (by omega)]
        omega
      clear h hl hx h6 hn
      have hq9 : (n + 7) / 8 ≤ 8 := by omega
      generalize ws.drop 1 = zs at *
      replace hk := Lib.hid hk
      have hk9 : k ≤ 999 := by have := hk.out; omega
      by_cases he : k = (n + 7) / 8
      · have hd3 : ((k : Int) != (((n + 7) / 8 : Nat) : Int)) = false := by rw [← he]; simp
        have hnk : n ≤ k * 8 := by omega
        have HE := Lib.hid (show (∀ j, n ≤ j → j < zs.length * 8 → Lm.lg (byts zs) j = 0) → (pkO zs n).isSome = true from fun h0 => pkO_ok (by rw [hzl]; exact he) h0)
        obtain ⟨L, hL⟩ : ∃ L, k * 8 - n = L := ⟨_, rfl⟩
        have hL2 := Lib.hid (show k * 8 = n + L by omega)
        generalize (n + 7) / 8 = q at *
        clear he
        go_enter Tryz.func117, Tryz.ntmps117
        go_upto_region 6 with fail
        go_wp2_with (go_at_call 120; (with_reducible refine HBI.out.mono ?_); rintro e w2 ⟨g, c2, rfl, hB2, hb2⟩; have hcc := hB2.cap; have hcc1 : c2 ≤ 9223372036854775807 := hcc.2; have hcc2 := hcc.1; by_cases hc2 : c2 = n)
        · have hL0 : L = 0 := by have := hL2.out; omega
          subst hL0
          have HV := Lib.hid (show (pkO zs n).isSome = true from HE.out (fun j h1 h2 => by have := hL2.out; rw [hzl] at h2; omega))
          replace hb2 := Lib.hid hb2
          clear hB2
          go_loopw [32] (fun v wx => v = .int .i64 0 ∧ wx = w2) (fun _ _ => 0)
          case atStart => exact ⟨rfl, rfl⟩
          case round =>
            obtain ⟨rfl, rfl⟩ := hrel
            go_wp2
            go_ret
            exact ⟨by rw [HV.out]; rfl, hb2.out⟩
        · have hby := hB2.by
          have HY := Lib.hid hby.2.2.2
          have hsm := hby.2.2.1
          have hlb := hby.1
          replace hb2 := Lib.hid hb2
          clear hB2 hby
          go_loopw [32] (fun v wx => ∃ i : Nat, i ≤ L ∧ v = .int .i64 (i : Int) ∧ Hid (∀ j, n ≤ j → j < n + i → Lm.lg (byts zs) j = 0) ∧ wx = w2) (fun v _ => L - (intOf v).toNat)
          case atStart => exact ⟨0, Nat.zero_le _, rfl, Lib.hid (fun j h1 h2 => by omega), rfl⟩
          case round =>
            obtain ⟨i, hi, rfl, hz, rfl⟩ := hrel
            by_cases hiL : i < L
            · have hd5 : decide ((i : Int) < (L : Int)) = true := decide_eq_true (by omega)
              obtain ⟨b', o', e, _, hc⟩ := HY.out (by have := hL2.out; omega)
              injection e with e
              injection e with e1 e2
              subst e1 e2
              have z0 := hc (n + i) (by have := hL2.out; omega)
              rw [Nat.zero_add] at z0
              have hlt : n + i < (byts zs).length := by have := hL2.out; omega
              obtain ⟨B, hB⟩ : ∃ B, Lm.lg (byts zs) (n + i) = B := ⟨_, rfl⟩
              rw [hB] at z0
              have hBs : B < 256 := by
                rw [← hB]
                unfold Lm.lg
                rw [List.getD_eq_getElem?_getD, List.getElem?_eq_getElem hlt]
                exact hsm _ (List.getElem_mem hlt)
              by_cases hB0 : B = 0
              · subst hB0
                have HZ : Hid (∀ j, n ≤ j → j < n + (i + 1) → Lm.lg (byts zs) j = 0) := Lib.hid (fun j h1 h2 => by
                  by_cases ej : j < n + i
                  · exact hz.out j h1 ej
                  · rw [show j = n + i by omega]; exact hB)
                clear hc hB hz
                go_wp2_with fail
                exact ⟨⟨i + 1, by omega, rfl, HZ, trivial⟩, by simp [intOf]; omega⟩
              · have hd6 : ((B : Int) != 0) = true := bne_iff_ne.2 (by omega)
                have HV := Lib.hid (show (pkO zs n).isSome = false from pkO_bad (j := n + i) (x := B) (by omega) (by
                  unfold Lm.lg at hB
                  rw [List.getD_eq_getElem?_getD] at hB
                  rw [List.getElem?_eq_getElem hlt] at hB ⊢
                  rw [← hB]
                  rfl) hB0)
                clear hc hB hz
                go_wp2
                go_ret
                exact ⟨by rw [HV.out]; rfl, hb2.out⟩
            · have e : i = L := by omega
              subst e
              have hd5 : decide ((i : Int) < (i : Int)) = false := decide_eq_false (by omega)
              have HV := Lib.hid (show (pkO zs n).isSome = true from HE.out (fun j h1 h2 => hz.out j h1 (by have := hL2.out; rw [hzl] at h2; omega)))
              clear hz
              go_wp2
              go_ret
              exact ⟨by rw [HV.out]; rfl, hb2.out⟩
      · have hd3 : ((k : Int) != (((n + 7) / 8 : Nat) : Int)) = true := bne_iff_ne.2 (by omega)
        rw [pkO_ne (by rw [hzl]; exact he)]
        generalize (n + 7) / 8 = q at *
        clear he
        go_enter Tryz.func117, Tryz.ntmps117
        go_wp2
        go_ret
        exact ⟨rfl, Below.refl _ _⟩
end Go.Proofs.YtejmmjedognaaaaGreat

namespace Go.Proofs.YtejmmjedognaaaaGreat
open Go.RowKit

mutual
/-- Are two terms the same in what is mentioned for their kind? -/
def Tm.sameB : Tm → Tm → Bool
  | .mk k n g l u s ks, b => Tm.alikeB (Tm.ment (.mk k n g l u s ks)) (Tm.ment b) && (if k = 6 ∨ k = 8 then Tm.samesB ks b.args else true)
def Tm.samesB : List Tm → List Tm → Bool
  | [], _ => true
  | _ :: _, [] => false
  | t :: r, x :: y => Tm.sameB t x && Tm.samesB r y
end
set_option maxRecDepth 100000 in
theorem Tm.ment_args (t : Tm) : t.ment.args = if t.kind = 6 ∨ t.kind = 8 then t.args else [] := by
  cases t with
  | mk k n g l u s ks =>
    have e : Tm.kind (.mk k n g l u s ks) = k := rfl
    have e' : Tm.args (.mk k n g l u s ks) = ks := rfl
    rw [e, e']
    simp only [Tm.ment]
    by_cases h1 : k = 6 ∨ k = 8
    · rw [if_neg (show ¬ (k = 1 ∨ k = 4 ∨ k = 5) by omega), if_neg (show ¬ k = 2 by omega), if_neg (show ¬ k = 3 by omega), if_pos h1, if_pos h1]; rfl
    · rw [if_neg h1, if_neg h1]
      split
      · rfl
      split
      · rfl
      split
      · rfl
      split
      · rfl
      split <;> rfl
set_option maxRecDepth 100000 in
theorem Tm.ment_kind {t : Tm} (h : t.ment.kind = 6 ∨ t.ment.kind = 8) : t.kind = t.ment.kind := by
  cases t with
  | mk k n g l u s ks =>
    have e : Tm.kind (.mk k n g l u s ks) = k := rfl
    rw [e]
    revert h
    simp only [Tm.ment]
    split
    · exact fun _ => rfl
    split
    · exact fun _ => rfl
    split
    · exact fun _ => rfl
    split
    · exact fun _ => rfl
    split
    · exact fun _ => rfl
    split
    · exact fun _ => rfl
    · intro h; rcases h with h | h <;> exact absurd h (by simp [Tm.kind])
set_option maxRecDepth 100000 in
theorem Tm.ment_kind' {t : Tm} (h : t.kind = 6 ∨ t.kind = 8) : t.ment.kind = t.kind := by
  cases t with
  | mk k n g l u s ks =>
    have e : Tm.kind (.mk k n g l u s ks) = k := rfl
    rw [e] at h ⊢
    simp only [Tm.ment]
    rw [if_neg (show ¬ (k = 1 ∨ k = 4 ∨ k = 5) by omega), if_neg (show ¬ k = 2 by omega), if_neg (show ¬ k = 3 by omega), if_pos h]; rfl
set_option maxRecDepth 100000 in
theorem Tm.alike_kind {a b : Tm} (h : Tm.alikeB a b = true) : a.kind = b.kind ∧ a.args.length = b.args.length := by
  unfold Tm.alikeB at h
  simp only [Bool.and_eq_true, beq_iff_eq] at h
  exact ⟨h.1.1.1.1.1, h.2.2⟩
set_option maxRecDepth 100000 in
/-- By the arguments that are mentioned. -/
theorem Tm.sameB_eq (a b : Tm) : Tm.sameB a b = (Tm.alikeB a.ment b.ment && Tm.samesB a.ment.args b.ment.args) := by
  cases h : Tm.alikeB a.ment b.ment with
  | false => cases a; rw [Tm.sameB, h]; rfl
  | true =>
    obtain ⟨hk, _⟩ := Tm.alike_kind h
    rw [Tm.ment_args a, Tm.ment_args b]
    cases a with
    | mk k n g l u s ks =>
      rw [Tm.sameB, h]
      have e : Tm.kind (.mk k n g l u s ks) = k := rfl
      have e' : Tm.args (.mk k n g l u s ks) = ks := rfl
      rw [e, e']
      by_cases h1 : k = 6 ∨ k = 8
      · have h2 := Tm.ment_kind' (t := .mk k n g l u s ks) h1
        have h3 := Tm.ment_kind (t := b) (by rw [← hk, h2]; exact h1)
        rw [if_pos h1, if_pos h1, if_pos (by rw [h3, ← hk, h2]; exact h1)]
      · rw [if_neg h1, if_neg h1]
        simp [Tm.samesB]
set_option maxRecDepth 100000 in
theorem Tm.samesB_no {ts us : List Tm} {j : Nat} {t u : Tm} (h : ts[j]? = some t) (h' : us[j]? = some u) (e : Tm.sameB t u = false) : Tm.samesB ts us = false := by
  induction ts generalizing us j with
  | nil => simp at h
  | cons a r ih =>
    cases us with
    | nil => rfl
    | cons b s =>
      rw [Tm.samesB]
      cases j with
      | zero => simp at h h'; rw [h, h', e]; rfl
      | succ j => simp at h h'; rw [ih h h']; simp
set_option maxRecDepth 100000 in
theorem Tm.samesB_yes {ts us : List Tm} (hl : ts.length = us.length) (h : ∀ (j : Nat) (t u : Tm), ts[j]? = some t → us[j]? = some u → Tm.sameB t u = true) : Tm.samesB ts us = true := by
  induction ts generalizing us with
  | nil => rfl
  | cons a r ih =>
    cases us with
    | nil => simp at hl
    | cons b s =>
      rw [Tm.samesB, h 0 a b rfl rfl, ih (by simpa using hl) (fun j t u h1 h2 => h (j + 1) t u (by simpa using h1) (by simpa using h2))]
      rfl

/-- Two variables that hold terms. -/
structure SmI (w : World) (r : TR) (t : Tm) (r' : TR) (t' : Tm) (W : World) : Prop where
  bx : Box7 W w.heap.size r
  ix : Box7 W (w.heap.size + 1) r'
  tv : TV W r t
  tw : TV W r' t'
  be : Below w.heap.size w W
section
variable {w : World} {r : TR} {t : Tm} {r' : TR} {t' : Tm} {W W' : World}
set_option maxRecDepth 100000 in
theorem SmI.below (h : SmI w r t r' t' W) (hb : Below W.heap.size W W') : SmI w r t r' t' W' :=
  ⟨h.bx.below hb, h.ix.below hb, h.tv.bel hb, h.tw.bel hb, h.be.trans (hb.mono h.be.size)⟩
set_option maxRecDepth 100000 in
theorem SmI.drew (h : SmI w r t r' t' W) : SmI w r t r' t' W.drew := h.below (Below.refl _ _).drew
set_option maxRecDepth 100000 in
theorem SmI.new (h : TV w r t) (h' : TV w r' t') : SmI w r t r' t' ((w.alloc (.cells #[.int .i64 r.k, .int .i64 r.n, .bool r.g, .slice r.A r.ln r.lc, .int .u64 r.u, .string r.s, .slice r.B r.m r.d] 40)).alloc (.cells #[.int .i64 r'.k, .int .i64 r'.n, .bool r'.g, .slice r'.A r'.ln r'.lc, .int .u64 r'.u, .string r'.s, .slice r'.B r'.m r'.d] 40)) := by
  have b1 := (Below.refl w.heap.size w).alloc (Nat.le_refl _) (.cells #[.int .i64 r.k, .int .i64 r.n, .bool r.g, .slice r.A r.ln r.lc, .int .u64 r.u, .string r.s, .slice r.B r.m r.d] 40)
  have b2 := b1.alloc (by simp) (.cells #[.int .i64 r'.k, .int .i64 r'.n, .bool r'.g, .slice r'.A r'.ln r'.lc, .int .u64 r'.u, .string r'.s, .slice r'.B r'.m r'.d] 40)
  have n := Box7.new (w.alloc (.cells #[.int .i64 r.k, .int .i64 r.n, .bool r.g, .slice r.A r.ln r.lc, .int .u64 r.u, .string r.s, .slice r.B r.m r.d] 40)) r'
  rw [World.size_alloc] at n
  exact ⟨(Box7.new w r).below ((Below.refl _ _).alloc (Nat.le_refl _) _), n, h.bel b2, h'.bel b2, b2⟩
end
set_option maxRecDepth 100000 in
theorem Box7.put' {w : World} {g g' : Nat} {r : TR} (h : Box7 w g r) (hn : g' ≠ g) (r' : TR) : Box7 (put7 w g' r') g r := by
  unfold Box7 at h ⊢
  simp [World.setCell, Array.getElem?_modify, h, hn]
set_option maxRecDepth 100000 in
/-- Both are written over. -/
theorem SmI.put {w : World} {r : TR} {t : Tm} {r' : TR} {t' : Tm} {W : World} (h : SmI w r t r' t' W) (R R' : TR) (T T' : Tm) (hT : TVS (· < w.heap.size) W R T) (hT' : TVS (· < w.heap.size) W R' T') :
    SmI w R T R' T' (put7 (put7 W w.heap.size R) (w.heap.size + 1) R') := by
  have k := ((Keeps.refl (· < w.heap.size) W).put7 (g := w.heap.size) (by simp) R).put7 (g := w.heap.size + 1) (by simp) R'
  exact ⟨(h.bx.put R).put' (by omega) R', (h.ix.put' (by omega) R).put R', (hT.keep k).tv, (hT'.keep k).tv, (h.be.put7 (Nat.le_refl _) R).put7 (by omega) R'⟩

set_option maxRecDepth 100000 in
/-- The seven facts of an element, one behind the other. -/
theorem seven {w : World} {b o : Nat} {r : TR} {P : Prop} (h : At7 w b o r) (p : P) : w.cell? ⟨b, o, none⟩ = some (.int .i64 r.k) ∧ w.cell? ⟨b, o + 1, none⟩ = some (.int .i64 r.n) ∧ w.cell? ⟨b, o + 2, none⟩ = some (.bool r.g) ∧ w.cell? ⟨b, o + 3, none⟩ = some (.slice r.A r.ln r.lc) ∧ w.cell? ⟨b, o + 4, none⟩ = some (.int .u64 r.u) ∧ w.cell? ⟨b, o + 5, none⟩ = some (.string r.s) ∧ w.cell? ⟨b, o + 6, none⟩ = some (.slice r.B r.m r.d) ∧ P :=
  ⟨h.c0, h.c1, h.c2, h.c3, h.c4, h.c5, h.c6, p⟩
set_option maxRecDepth 100000 in
theorem seven' {w : World} {b o : Nat} {r : TR} (h : At7 w b o r) : w.cell? ⟨b, o, none⟩ = some (.int .i64 r.k) ∧ w.cell? ⟨b, o + 1, none⟩ = some (.int .i64 r.n) ∧ w.cell? ⟨b, o + 2, none⟩ = some (.bool r.g) ∧ w.cell? ⟨b, o + 3, none⟩ = some (.slice r.A r.ln r.lc) ∧ w.cell? ⟨b, o + 4, none⟩ = some (.int .u64 r.u) ∧ w.cell? ⟨b, o + 5, none⟩ = some (.string r.s) ∧ w.cell? ⟨b, o + 6, none⟩ = some (.slice r.B r.m r.d) := ⟨h.c0, h.c1, h.c2, h.c3, h.c4, h.c5, h.c6⟩
set_option maxRecDepth 100000 in
theorem pairS {W v : World} {b o b' o' p q : Nat} {ra rb : TR} {X Y : Option Value} (hv : Below W.heap.size W v) (hp : p < W.heap.size) (hq : q < W.heap.size) (x : W.cell? ⟨p, 6, none⟩ = X) (y : W.cell? ⟨q, 6, none⟩ = Y)
    (h : At7 W b o ra) (hlt : b < W.heap.size) (h' : At7 W b' o' rb) (hlt' : b' < W.heap.size) :
    v.cell? ⟨p, 6, none⟩ = X ∧ v.cell? ⟨q, 6, none⟩ = Y ∧ v.cell? ⟨b, o, none⟩ = some (.int .i64 ra.k) ∧ v.cell? ⟨b, o + 1, none⟩ = some (.int .i64 ra.n) ∧ v.cell? ⟨b, o + 2, none⟩ = some (.bool ra.g) ∧ v.cell? ⟨b, o + 3, none⟩ = some (.slice ra.A ra.ln ra.lc) ∧ v.cell? ⟨b, o + 4, none⟩ = some (.int .u64 ra.u) ∧ v.cell? ⟨b, o + 5, none⟩ = some (.string ra.s) ∧ v.cell? ⟨b, o + 6, none⟩ = some (.slice ra.B ra.m ra.d) ∧ v.cell? ⟨b', o', none⟩ = some (.int .i64 rb.k) ∧ v.cell? ⟨b', o' + 1, none⟩ = some (.int .i64 rb.n) ∧ v.cell? ⟨b', o' + 2, none⟩ = some (.bool rb.g) ∧ v.cell? ⟨b', o' + 3, none⟩ = some (.slice rb.A rb.ln rb.lc) ∧ v.cell? ⟨b', o' + 4, none⟩ = some (.int .u64 rb.u) ∧ v.cell? ⟨b', o' + 5, none⟩ = some (.string rb.s) ∧ v.cell? ⟨b', o' + 6, none⟩ = some (.slice rb.B rb.m rb.d) :=
  ⟨(hv.cell (p := ⟨p, 6, none⟩) hp).trans x, (hv.cell (p := ⟨q, 6, none⟩) hq).trans y, seven (h.below hv hlt) (seven' (h'.below hv hlt'))⟩
end Go.Proofs.YtejmmjedognaaaaGreat

namespace Go.Proofs.YtejmmjedognaaaaGreat
open Go.RowKit

set_option maxRecDepth 100000 in
theorem Tm.alikeB_refl (t : Tm) : Tm.alikeB t t = true := by simp [Tm.alikeB]
set_option maxRecDepth 100000 in
theorem Tm.sameB_refl (t : Tm) : Tm.sameB t t = true := by
  induction t using Tm.ind with
  | h k n g l u s ks ih =>
    rw [Tm.sameB_eq, Tm.alikeB_refl, Bool.true_and]
    refine Tm.samesB_yes rfl (fun j t u h1 h2 => ?_)
    rw [h1] at h2
    cases h2
    refine ih t ?_
    have hm := List.mem_of_getElem? h1
    rw [Tm.ment_args] at hm
    split at hm
    · exact hm
    · cases hm
end Go.Proofs.YtejmmjedognaaaaGreat

namespace Go.Proofs.YtejmmjedognaaaaGreat
open Go.RowKit

set_option maxRecDepth 100000 in
theorem und_terms : Tryz.prog.underlying 38 = some (.slice 40) := by kernel_rfl
set_option maxRecDepth 100000 in
theorem info_term : (Tryz.prog.info? 40).map (fun i => (i.zero, i.size, i.bytes)) = some (some (.agg #[.int .i64 zeroR.k, .int .i64 zeroR.n, .bool zeroR.g, .slice zeroR.A zeroR.ln zeroR.lc, .int .u64 zeroR.u, .string zeroR.s, .slice zeroR.B zeroR.m zeroR.d]), 7, 96) := by kernel_rfl
set_option maxRecDepth 100000 in
theorem info_term' : ∃ i, Tryz.prog.info? 40 = some i ∧ i.zero = some (.agg #[.int .i64 zeroR.k, .int .i64 zeroR.n, .bool zeroR.g, .slice zeroR.A zeroR.ln zeroR.lc, .int .u64 zeroR.u, .string zeroR.s, .slice zeroR.B zeroR.m zeroR.d]) ∧ i.size = 7 ∧ i.bytes = 96 := by
  have h := info_term
  cases hi : Tryz.prog.info? 40 with
  | none => rw [hi] at h; simp at h
  | some i => rw [hi] at h; simp at h; exact ⟨i, rfl, h.1, h.2.1, h.2.2⟩

/-- The cells of so many records. -/
def rcells (V : Nat → TR) : Nat → List Value
  | 0 => []
  | m + 1 => rcells V m ++ (V m).cells
set_option maxRecDepth 100000 in
theorem rcells_len (V : Nat → TR) (m : Nat) : (rcells V m).length = m * 7 := by
  induction m with
  | zero => rfl
  | succ m ih => rw [rcells, List.length_append, ih]; simp [TR.cells]; omega
set_option maxRecDepth 100000 in
theorem rcells_get (V : Nat → TR) {m i j : Nat} (hi : i < m) (hj : j < 7) : (rcells V m)[i * 7 + j]? = (V i).cells[j]? := by
  induction m with
  | zero => omega
  | succ m ih =>
    rw [rcells]
    by_cases h : i < m
    · rw [List.getElem?_append_left (by rw [rcells_len]; omega), ih h]
    · have : i = m := by omega
      subst this
      rw [List.getElem?_append_right (by rw [rcells_len]; omega), rcells_len]
      congr 1
      omega
set_option maxRecDepth 100000 in
theorem rcells_congr {V V' : Nat → TR} {m : Nat} (h : ∀ i, i < m → V i = V' i) : rcells V m = rcells V' m := by
  induction m with
  | zero => rfl
  | succ m ih => rw [rcells, rcells, ih (fun i hi => h i (by omega)), h m (by omega)]
set_option maxRecDepth 100000 in
theorem cells_one {r : TR} : ∀ u ∈ r.cells, u.oneCell' = true := by
  intro u hu
  simp only [TR.cells, List.mem_cons, List.not_mem_nil, or_false] at hu
  rcases hu with rfl | rfl | rfl | rfl | rfl | rfl | rfl <;> rfl

set_option maxRecDepth 100000 in
theorem TVS.lt {S : Nat → Prop} {w : World} {r : TR} {t : Tm} (h : TVS S w r t) : TVS (fun b => S b ∧ b < w.heap.size) w r t := by
  induction h with
  | mk r l ks V hf hm hs on hk ih => exact .mk r l ks V hf hm hs ⟨fun h a e => ⟨on.lim h a e, hf.lim.blk h a e⟩, fun h a e => ⟨on.arg h a e, hs.blk h a e⟩⟩ ih

/-- The slice is a row of the call's own; its elements stand for the terms; what they lead to lies from block 'base' on, and not in the row itself. -/
structure Row7 (w : World) (base : Nat) (B : Option Addr) (m d : Nat) (ts : List Tm) : Prop where
  len : ts.length = m
  ex : ∃ V : Nat → TR, w.ownsRow base 40 7 (.slice B m d) m (rcells V m) ∧ ∀ i t, ts[i]? = some t → TVS (fun b => base ≤ b ∧ (Value.slice B m d).ownBlock ≠ some b) w (V i) t
set_option maxRecDepth 100000 in
theorem Row7.nil (w : World) (base : Nat) : Row7 w base none 0 0 [] := ⟨rfl, fun _ => default, World.ownsRow_nil _ _ _ _, fun i t e => by simp at e⟩
set_option maxRecDepth 100000 in
theorem Row7.below {w w' : World} {base m d : Nat} {B : Option Addr} {ts : List Tm} (h : Row7 w base B m d ts) (hb : Below w.heap.size w w') : Row7 w' base B m d ts := by
  obtain ⟨V, h1, h2⟩ := h.ex
  refine ⟨h.len, V, ⟨h1.1, ?_⟩, fun i t e => (h2 i t e).keep (hb.keeps _)⟩
  rcases h1.2 with h0 | ⟨g, cap, cur, hv, hbg, hg, rest⟩
  · exact .inl h0
  · exact .inr ⟨g, cap, cur, hv, hbg, (hb.block g (Array.getElem?_eq_some_iff.1 hg).1).trans hg, rest⟩
set_option maxRecDepth 100000 in
theorem Row7.md {w : World} {base m d : Nat} {B : Option Addr} {ts : List Tm} (h : Row7 w base B m d ts) : m ≤ d ∧ d ≤ maxLen := by
  obtain ⟨V, h1, h2⟩ := h.ex
  rcases h1.2 with ⟨h0, h0'⟩ | ⟨g, cap, cur, hv, hbg, hg, h1, h2, _⟩
  · cases h0; exact ⟨Nat.le_refl _, Nat.zero_le _⟩
  · cases hv; exact ⟨h1, h2⟩
set_option maxRecDepth 100000 in
theorem Row7.tvs {w : World} {base m d : Nat} {B : Option Addr} {ts : List Tm} (h : Row7 w base B m d ts) : TVSs (fun b => base ≤ b) w B m d ts := by
  have hmd := h.md
  obtain ⟨V, h1, h2⟩ := h.ex
  refine ⟨h.len, hmd.1, hmd.2, ?_, V, ?_, fun i t e => (h2 i t e).mono fun b hb => hb.1⟩
  · intro _ a e
    subst e
    exact (h1.lt a.block rfl).1
  · intro hm
    rcases h1.2 with ⟨h0, h0'⟩ | ⟨g, cap, cur, hv, hbg, hg, _⟩
    · omega
    · cases hv
      refine ⟨g, 0, rfl, (Array.getElem?_eq_some_iff.1 hg).1, fun i hi => At7.of fun j hj => ?_⟩
      rw [add_none, World.ownsRow.cellAt h1 _ (by omega), Nat.zero_add, rcells_get V hi hj]

set_option maxRecDepth 100000 in
/-- One more is put behind. -/
theorem Row7.push {w : World} {base m d : Nat} {B : Option Addr} {ts : List Tm} (h : Row7 w base B m d ts) {r : TR} {t : Tm} (ht : TVS (fun b => base ≤ b ∧ (Value.slice B m d).ownBlock ≠ some b) w r t)
    (a : Addr) (c : Nat) (ha : ∀ j u, r.cells[j]? = some u → w.cell? (a.add j) = some u) (hm : m ≤ 100000) (hbase : base ≤ w.heap.size) (ty : TypeId) :
    ∃ B' d' w', (Builtin.append_ #[38, 38] ty #[.slice B m d, .slice (some a) 1 c]).run Tryz.prog w = .ok (.slice B' (m + 1) d') w' ∧ Row7 w' base B' (m + 1) d' (ts ++ [t]) ∧ Below base w w' ∧
      ((Value.slice B' (m + 1) d').ownBlock = (Value.slice B m d).ownBlock ∨ (Value.slice B' (m + 1) d').ownBlock = some w.heap.size) := by
  obtain ⟨i, hi, hz, hs, hb⟩ := info_term'
  obtain ⟨V, h1, h2⟩ := h.ex
  obtain ⟨v', w', hrun, ho, hg, hn, hloc⟩ := run_append_own_at (P := Tryz.prog) w base 38 ty 40 i _ 7 96 und_terms hi hz hs hb rfl (by decide) (.slice B m d) m (rcells V m) h1 a 1 c r.cells (by simp [TR.cells]) ha cells_one (by unfold maxLen; omega) (by omega) hbase
  have hform : ∃ B' d', v' = .slice B' (m + 1) d' := by
    rcases ho.2 with ⟨_, h0⟩ | ⟨g, cap, cur, rfl, _⟩
    · omega
    · exact ⟨_, _, rfl⟩
  obtain ⟨B', d', rfl⟩ := hform
  have hrow : ∀ k, (Value.slice B m d).ownBlock = some k → base ≤ k := fun k hk => (World.ownsRow.lt h1 k hk).1
  have hkeep : Keeps (fun b => (base ≤ b ∧ (Value.slice B m d).ownBlock ≠ some b) ∧ b < w.heap.size) w w' := ⟨hg.size, fun b hb hl => hg.block b hl (fun e => hb.1.2 e.symm)⟩
  have hS : ∀ b, (base ≤ b ∧ (Value.slice B m d).ownBlock ≠ some b) ∧ b < w.heap.size → base ≤ b ∧ (Value.slice B' (m + 1) d').ownBlock ≠ some b := fun b hb => ⟨hb.1.1, by
    rcases hloc with e | e
    · rw [e]; exact hb.1.2
    · rw [e]; intro e'; cases e'; exact absurd hb.2 (by omega)⟩
  refine ⟨B', d', w', hrun, ⟨by rw [List.length_append, h.len]; rfl, fun i => if i < m then V i else r, ?_, ?_⟩, (Below.refl base w).grown hg hbase hrow, hloc⟩
  · have e : rcells (fun i => if i < m then V i else r) (m + 1) = rcells V m ++ r.cells := by
      rw [rcells, if_neg (by omega), rcells_congr (V' := V) (fun i hi => by simp [hi])]
    rw [e]
    exact ho
  · intro i x e
    by_cases hlt : i < m
    · rw [List.getElem?_append_left (by rw [h.len]; exact hlt)] at e
      simp only [hlt, if_true]
      exact ((h2 i x e).lt.keep hkeep).mono hS
    · rw [List.getElem?_append_right (by rw [h.len]; omega), h.len] at e
      have hz : i - m = 0 := by
        rcases Nat.eq_zero_or_pos (i - m) with hz | hz
        · exact hz
        · rw [List.getElem?_eq_none (by simp; omega)] at e; cases e
      rw [hz] at e
      simp at e
      subst e
      simp only [hlt, if_false]
      exact (ht.lt.keep hkeep).mono hS
end Go.Proofs.YtejmmjedognaaaaGreat
