/-
  PACKAGE term: same of light terms (no classes are kept), Same of light terms.
-/
import Derived.Test.YtbpihjcghmmacaaTmL
namespace Go.Proofs.Ytbpihjcghmmacaa
open Go.RowKit

mutual
/-- Are two terms the same in what is mentioned for their kind? -/
def Tm.sameB : Tm → Tm → Bool
  | .mk k n g l u s ks, b => Tm.alikeB (Tm.ment (.mk k n g l u s ks)) (Tm.ment b) && (if k = 6 ∨ k = 8 then Tm.samesB ks b.args else true)
def Tm.samesB : List Tm → List Tm → Bool
  | [], _ => true
  | _ :: _, [] => false
  | t :: r, x :: y => Tm.sameB t x && Tm.samesB r y
end
theorem Tm.ment_args (t : Tm) : t.ment.args = if t.kind = 6 ∨ t.kind = 8 then t.args else [] := by
  cases t with
  | mk k n g l u s ks =>
    have e : Tm.kind (.mk k n g l u s ks) = k := rfl
    have e' : Tm.args (.mk k n g l u s ks) = ks := rfl
    rw [e, e']
    simp only [Tm.ment]
    by_cases h1 : k = 6 ∨ k = 8
    · rw [if_neg (show ¬ (k = 1 ∨ k = 4 ∨ k = 5) by omega), if_neg (show ¬ k = 2 by omega), if_neg (show ¬ k = 3 by omega), if_pos h1, if_pos h1]; rfl
    · rw [if_neg h1, if_neg h1]
      split
      · rfl
      split
      · rfl
      split
      · rfl
      split
      · rfl
      split <;> rfl
theorem Tm.ment_kind {t : Tm} (h : t.ment.kind = 6 ∨ t.ment.kind = 8) : t.kind = t.ment.kind := by
  cases t with
  | mk k n g l u s ks =>
    have e : Tm.kind (.mk k n g l u s ks) = k := rfl
    rw [e]
    revert h
    simp only [Tm.ment]
    split
    · exact fun _ => rfl
    split
    · exact fun _ => rfl
    split
    · exact fun _ => rfl
    split
    · exact fun _ => rfl
    split
    · exact fun _ => rfl
    split
    · exact fun _ => rfl
    · intro h; rcases h with h | h <;> exact absurd h (by simp [Tm.kind])
theorem Tm.ment_kind' {t : Tm} (h : t.kind = 6 ∨ t.kind = 8) : t.ment.kind = t.kind := by
  cases t with
  | mk k n g l u s ks =>
    have e : Tm.kind (.mk k n g l u s ks) = k := rfl
    rw [e] at h ⊢
    simp only [Tm.ment]
    rw [if_neg (show ¬ (k = 1 ∨ k = 4 ∨ k = 5) by omega), if_neg (show ¬ k = 2 by omega), if_neg (show ¬ k = 3 by omega), if_pos h]; rfl
theorem Tm.alike_kind {a b : Tm} (h : Tm.alikeB a b = true) : a.kind = b.kind ∧ a.args.length = b.args.length := by
  unfold Tm.alikeB at h
  simp only [Bool.and_eq_true, beq_iff_eq] at h
  exact ⟨h.1.1.1.1.1, h.2.2⟩
/-- By the arguments that are mentioned. -/
theorem Tm.sameB_eq (a b : Tm) : Tm.sameB a b = (Tm.alikeB a.ment b.ment && Tm.samesB a.ment.args b.ment.args) := by
  cases h : Tm.alikeB a.ment b.ment with
  | false => cases a; rw [Tm.sameB, h]; rfl
  | true =>
    obtain ⟨hk, _⟩ := Tm.alike_kind h
    rw [Tm.ment_args a, Tm.ment_args b]
    cases a with
    | mk k n g l u s ks =>
      rw [Tm.sameB, h]
      have e : Tm.kind (.mk k n g l u s ks) = k := rfl
      have e' : Tm.args (.mk k n g l u s ks) = ks := rfl
      rw [e, e']
      by_cases h1 : k = 6 ∨ k = 8
      · have h2 := Tm.ment_kind' (t := .mk k n g l u s ks) h1
        have h3 := Tm.ment_kind (t := b) (by rw [← hk, h2]; exact h1)
        rw [if_pos h1, if_pos h1, if_pos (by rw [h3, ← hk, h2]; exact h1)]
      · rw [if_neg h1, if_neg h1]
        simp [Tm.samesB]
theorem Tm.samesB_no {ts us : List Tm} {j : Nat} {t u : Tm} (h : ts[j]? = some t) (h' : us[j]? = some u) (e : Tm.sameB t u = false) : Tm.samesB ts us = false := by
  induction ts generalizing us j with
  | nil => simp at h
  | cons a r ih =>
    cases us with
    | nil => rfl
    | cons b s =>
      rw [Tm.samesB]
      cases j with
      | zero => simp at h h'; rw [h, h', e]; rfl
      | succ j => simp at h h'; rw [ih h h']; simp
theorem Tm.samesB_yes {ts us : List Tm} (hl : ts.length = us.length) (h : ∀ (j : Nat) (t u : Tm), ts[j]? = some t → us[j]? = some u → Tm.sameB t u = true) : Tm.samesB ts us = true := by
  induction ts generalizing us with
  | nil => rfl
  | cons a r ih =>
    cases us with
    | nil => simp at hl
    | cons b s =>
      rw [Tm.samesB, h 0 a b rfl rfl, ih (by simpa using hl) (fun j t u h1 h2 => h (j + 1) t u (by simpa using h1) (by simpa using h2))]
      rfl

/-- Two variables that hold terms. -/
structure SmI (w : World) (r : TR) (t : Tm) (r' : TR) (t' : Tm) (W : World) : Prop where
  bx : Box7 W w.heap.size r
  ix : Box7 W (w.heap.size + 1) r'
  tv : TV W r t
  tw : TV W r' t'
  be : Below w.heap.size w W
section
variable {w : World} {r : TR} {t : Tm} {r' : TR} {t' : Tm} {W W' : World}
theorem SmI.below (h : SmI w r t r' t' W) (hb : Below W.heap.size W W') : SmI w r t r' t' W' :=
  ⟨h.bx.below hb, h.ix.below hb, h.tv.bel hb, h.tw.bel hb, h.be.trans (hb.mono h.be.size)⟩
theorem SmI.drew (h : SmI w r t r' t' W) : SmI w r t r' t' W.drew := h.below (Below.refl _ _).drew
theorem SmI.new (h : TV w r t) (h' : TV w r' t') : SmI w r t r' t' ((w.alloc (.cells #[.int .i64 r.k, .int .i64 r.n, .bool r.g, .slice r.A r.ln r.lc, .int .u64 r.u, .string r.s, .slice r.B r.m r.d] 28)).alloc (.cells #[.int .i64 r'.k, .int .i64 r'.n, .bool r'.g, .slice r'.A r'.ln r'.lc, .int .u64 r'.u, .string r'.s, .slice r'.B r'.m r'.d] 28)) := by
  have b1 := (Below.refl w.heap.size w).alloc (Nat.le_refl _) (.cells #[.int .i64 r.k, .int .i64 r.n, .bool r.g, .slice r.A r.ln r.lc, .int .u64 r.u, .string r.s, .slice r.B r.m r.d] 28)
  have b2 := b1.alloc (by simp) (.cells #[.int .i64 r'.k, .int .i64 r'.n, .bool r'.g, .slice r'.A r'.ln r'.lc, .int .u64 r'.u, .string r'.s, .slice r'.B r'.m r'.d] 28)
  have n := Box7.new (w.alloc (.cells #[.int .i64 r.k, .int .i64 r.n, .bool r.g, .slice r.A r.ln r.lc, .int .u64 r.u, .string r.s, .slice r.B r.m r.d] 28)) r'
  rw [World.size_alloc] at n
  exact ⟨(Box7.new w r).below ((Below.refl _ _).alloc (Nat.le_refl _) _), n, h.bel b2, h'.bel b2, b2⟩
end
theorem Box7.put' {w : World} {g g' : Nat} {r : TR} (h : Box7 w g r) (hn : g' ≠ g) (r' : TR) : Box7 (put7 w g' r') g r := by
  unfold Box7 at h ⊢
  simp [World.setCell, Array.getElem?_modify, h, hn]
/-- Both are written over. -/
theorem SmI.put {w : World} {r : TR} {t : Tm} {r' : TR} {t' : Tm} {W : World} (h : SmI w r t r' t' W) (R R' : TR) (T T' : Tm) (hT : TVS (· < w.heap.size) W R T) (hT' : TVS (· < w.heap.size) W R' T') :
    SmI w R T R' T' (put7 (put7 W w.heap.size R) (w.heap.size + 1) R') := by
  have k := ((Keeps.refl (· < w.heap.size) W).put7 (g := w.heap.size) (by simp) R).put7 (g := w.heap.size + 1) (by simp) R'
  exact ⟨(h.bx.put R).put' (by omega) R', (h.ix.put' (by omega) R).put R', (hT.keep k).tv, (hT'.keep k).tv, (h.be.put7 (Nat.le_refl _) R).put7 (by omega) R'⟩

/-- The seven facts of an element, one behind the other. -/
theorem seven {w : World} {b o : Nat} {r : TR} {P : Prop} (h : At7 w b o r) (p : P) : w.cell? ⟨b, o, none⟩ = some (.int .i64 r.k) ∧ w.cell? ⟨b, o + 1, none⟩ = some (.int .i64 r.n) ∧ w.cell? ⟨b, o + 2, none⟩ = some (.bool r.g) ∧ w.cell? ⟨b, o + 3, none⟩ = some (.slice r.A r.ln r.lc) ∧ w.cell? ⟨b, o + 4, none⟩ = some (.int .u64 r.u) ∧ w.cell? ⟨b, o + 5, none⟩ = some (.string r.s) ∧ w.cell? ⟨b, o + 6, none⟩ = some (.slice r.B r.m r.d) ∧ P :=
  ⟨h.c0, h.c1, h.c2, h.c3, h.c4, h.c5, h.c6, p⟩
theorem seven' {w : World} {b o : Nat} {r : TR} (h : At7 w b o r) : w.cell? ⟨b, o, none⟩ = some (.int .i64 r.k) ∧ w.cell? ⟨b, o + 1, none⟩ = some (.int .i64 r.n) ∧ w.cell? ⟨b, o + 2, none⟩ = some (.bool r.g) ∧ w.cell? ⟨b, o + 3, none⟩ = some (.slice r.A r.ln r.lc) ∧ w.cell? ⟨b, o + 4, none⟩ = some (.int .u64 r.u) ∧ w.cell? ⟨b, o + 5, none⟩ = some (.string r.s) ∧ w.cell? ⟨b, o + 6, none⟩ = some (.slice r.B r.m r.d) := ⟨h.c0, h.c1, h.c2, h.c3, h.c4, h.c5, h.c6⟩
theorem pairS {W v : World} {b o b' o' p q : Nat} {ra rb : TR} {X Y : Option Value} (hv : Below W.heap.size W v) (hp : p < W.heap.size) (hq : q < W.heap.size) (x : W.cell? ⟨p, 6, none⟩ = X) (y : W.cell? ⟨q, 6, none⟩ = Y)
    (h : At7 W b o ra) (hlt : b < W.heap.size) (h' : At7 W b' o' rb) (hlt' : b' < W.heap.size) :
    v.cell? ⟨p, 6, none⟩ = X ∧ v.cell? ⟨q, 6, none⟩ = Y ∧ v.cell? ⟨b, o, none⟩ = some (.int .i64 ra.k) ∧ v.cell? ⟨b, o + 1, none⟩ = some (.int .i64 ra.n) ∧ v.cell? ⟨b, o + 2, none⟩ = some (.bool ra.g) ∧ v.cell? ⟨b, o + 3, none⟩ = some (.slice ra.A ra.ln ra.lc) ∧ v.cell? ⟨b, o + 4, none⟩ = some (.int .u64 ra.u) ∧ v.cell? ⟨b, o + 5, none⟩ = some (.string ra.s) ∧ v.cell? ⟨b, o + 6, none⟩ = some (.slice ra.B ra.m ra.d) ∧ v.cell? ⟨b', o', none⟩ = some (.int .i64 rb.k) ∧ v.cell? ⟨b', o' + 1, none⟩ = some (.int .i64 rb.n) ∧ v.cell? ⟨b', o' + 2, none⟩ = some (.bool rb.g) ∧ v.cell? ⟨b', o' + 3, none⟩ = some (.slice rb.A rb.ln rb.lc) ∧ v.cell? ⟨b', o' + 4, none⟩ = some (.int .u64 rb.u) ∧ v.cell? ⟨b', o' + 5, none⟩ = some (.string rb.s) ∧ v.cell? ⟨b', o' + 6, none⟩ = some (.slice rb.B rb.m rb.d) :=
  ⟨(hv.cell (p := ⟨p, 6, none⟩) hp).trans x, (hv.cell (p := ⟨q, 6, none⟩) hq).trans y, seven (h.below hv hlt) (seven' (h'.below hv hlt'))⟩
theorem neq_nilmap (w : World) : (binOp .neq 56 (.map none) (.map none)).run Try.prog w = .ok (.bool false) w := by
  have h : ∀ d : Nat, (Op.equalIn (d + 1) 56 (.map none) (.map none)).run Try.prog w = .ok true w := fun d => by
    simp [Op.equalIn, run_underlying Try.underlying56]
  simp only [binOp]
  simp [Op.equal, Op.maxDepth, h 9999]

set_option maxRecDepth 100000 in
set_option maxHeartbeats 8000000 in
theorem same_nil (t : Tm) : ∀ (w : World) (r : TR) (r' : TR) (t' : Tm), TV w r t → TV w r' t' →
    Calls Try.prog 40 #[.map none, .agg #[.int .i64 r.k, .int .i64 r.n, .bool r.g, .slice r.A r.ln r.lc, .int .u64 r.u, .string r.s, .slice r.B r.m r.d], .agg #[.int .i64 r'.k, .int .i64 r'.n, .bool r'.g, .slice r'.A r'.ln r'.lc, .int .u64 r'.u, .string r'.s, .slice r'.B r'.m r'.d]] w fun e w' => e = .returned (.bool (Tm.sameB t t')) ∧ Below w.heap.size w w' := by
  induction t using Tm.ind with
  | h k n g l u s ks ih =>
    intro w r r' t' htv htv'
    have IH := Lib.hid ih
    clear ih
    obtain ⟨t, ht⟩ : ∃ t, t = Tm.mk k n g l u s ks := ⟨_, rfl⟩
    have hks : t.args = ks := by rw [ht]; rfl
    rw [← hks] at IH
    rw [← ht] at htv ⊢
    clear hks ht
    have hmem : Hid (∀ x ∈ t.ment.args, x ∈ t.args) := Lib.hid (by
      rw [Tm.ment_args]
      split
      · exact fun x h => h
      · intro x h; cases h)
    obtain ⟨R, hR⟩ : ∃ R, R = Tm.sameB t t' := ⟨_, rfl⟩
    rw [← hR]
    rw [Tm.sameB_eq] at hR
    have HR := Lib.hid hR
    clear hR
    have I := SmI.new htv htv'
    have S1 := Lib.hid htv.ment.tvS
    have S2 := Lib.hid htv'.ment.tvS
    have BW := Lib.hid I.be
    clear htv htv'
    go_enter Try.func40, Try.ntmps40
    go_upto_region 1 with fail
    generalize (w.alloc (.cells #[.int .i64 r.k, .int .i64 r.n, .bool r.g, .slice r.A r.ln r.lc, .int .u64 r.u, .string r.s, .slice r.B r.m r.d] 28)).alloc (.cells #[.int .i64 r'.k, .int .i64 r'.n, .bool r'.g, .slice r'.A r'.ln r'.lc, .int .u64 r'.u, .string r'.s, .slice r'.B r'.m r'.d] 28) = W at *
    go_cut [] (fun wx => SmI w r.ment t.ment r'.ment t'.ment wx)
    case first =>
      have J := Lib.hid I.drew
      have y0 := I.bx.at.c0; have y1 := I.bx.at.c1; have y2 := I.bx.at.c2; have y3 := I.bx.at.c3; have y4 := I.bx.at.c4; have y5 := I.bx.at.c5; have y6 := I.bx.at.c6; have x0 := I.ix.at.c0; have x1 := I.ix.at.c1; have x2 := I.ix.at.c2; have x3 := I.ix.at.c3; have x4 := I.ix.at.c4; have x5 := I.ix.at.c5; have x6 := I.ix.at.c6; have f0 := I.bx.frozen 0; have f1 := I.bx.frozen 1; have f2 := I.bx.frozen 2; have f3 := I.bx.frozen 3; have f4 := I.bx.frozen 4; have f5 := I.bx.frozen 5; have f6 := I.bx.frozen 6; have h0 := I.ix.frozen 0; have h1 := I.ix.frozen 1; have h2 := I.ix.frozen 2; have h3 := I.ix.frozen 3; have h4 := I.ix.frozen 4; have h5 := I.ix.frozen 5; have h6 := I.ix.frozen 6
      clear I
      go_region_with (first
        | (go_at_call_of 56 (Value.int IntKind.i64 r.k); refine (ment_any _ r).mono ?_; rintro e v ⟨rfl, hv⟩; have J' := Lib.hid (J.out.below hv); clear J y0 y1 y2 y3 y4 y5 y6 x0 x1 x2 x3 x4 x5 x6 f0 f1 f2 f3 f4 f5 f6 h0 h1 h2 h3 h4 h5 h6; have J := J'; clear J' hv; have y0 := J.out.bx.at.c0; have y1 := J.out.bx.at.c1; have y2 := J.out.bx.at.c2; have y3 := J.out.bx.at.c3; have y4 := J.out.bx.at.c4; have y5 := J.out.bx.at.c5; have y6 := J.out.bx.at.c6; have x0 := J.out.ix.at.c0; have x1 := J.out.ix.at.c1; have x2 := J.out.ix.at.c2; have x3 := J.out.ix.at.c3; have x4 := J.out.ix.at.c4; have x5 := J.out.ix.at.c5; have x6 := J.out.ix.at.c6; have f0 := J.out.bx.frozen 0; have f1 := J.out.bx.frozen 1; have f2 := J.out.bx.frozen 2; have f3 := J.out.bx.frozen 3; have f4 := J.out.bx.frozen 4; have f5 := J.out.bx.frozen 5; have f6 := J.out.bx.frozen 6; have h0 := J.out.ix.frozen 0; have h1 := J.out.ix.frozen 1; have h2 := J.out.ix.frozen 2; have h3 := J.out.ix.frozen 3; have h4 := J.out.ix.frozen 4; have h5 := J.out.ix.frozen 5; have h6 := J.out.ix.frozen 6)
        | (go_at_call_of 56 (Value.int IntKind.i64 r'.k); refine (ment_any _ r').mono ?_; rintro e v ⟨rfl, hv⟩; have J' := Lib.hid (J.out.below hv); clear J y0 y1 y2 y3 y4 y5 y6 x0 x1 x2 x3 x4 x5 x6 f0 f1 f2 f3 f4 f5 f6 h0 h1 h2 h3 h4 h5 h6; have J := J'; clear J' hv; have y0 := J.out.bx.at.c0; have y1 := J.out.bx.at.c1; have y2 := J.out.bx.at.c2; have y3 := J.out.bx.at.c3; have y4 := J.out.bx.at.c4; have y5 := J.out.bx.at.c5; have y6 := J.out.bx.at.c6; have x0 := J.out.ix.at.c0; have x1 := J.out.ix.at.c1; have x2 := J.out.ix.at.c2; have x3 := J.out.ix.at.c3; have x4 := J.out.ix.at.c4; have x5 := J.out.ix.at.c5; have x6 := J.out.ix.at.c6; have f0 := J.out.bx.frozen 0; have f1 := J.out.bx.frozen 1; have f2 := J.out.bx.frozen 2; have f3 := J.out.bx.frozen 3; have f4 := J.out.bx.frozen 4; have f5 := J.out.bx.frozen 5; have f6 := J.out.bx.frozen 6; have h0 := J.out.ix.frozen 0; have h1 := J.out.ix.frozen 1; have h2 := J.out.ix.frozen 2; have h3 := J.out.ix.frozen 3; have h4 := J.out.ix.frozen 4; have h5 := J.out.ix.frozen 5; have h6 := J.out.ix.frozen 6))
      all_goals
        go_wp2_with fail
        go_meet
        exact J.out.put r.ment r'.ment t.ment t'.ment (S1.out.keep (J.out.be.keeps _)) (S2.out.keep (J.out.be.keeps _))
    clear I S1 S2
    have I := hcut
    clear hcut
    have y0 := I.bx.at.c0; have y1 := I.bx.at.c1; have y2 := I.bx.at.c2; have y3 := I.bx.at.c3; have y4 := I.bx.at.c4; have y5 := I.bx.at.c5; have y6 := I.bx.at.c6; have x0 := I.ix.at.c0; have x1 := I.ix.at.c1; have x2 := I.ix.at.c2; have x3 := I.ix.at.c3; have x4 := I.ix.at.c4; have x5 := I.ix.at.c5; have x6 := I.ix.at.c6
    go_wp2_with fail
    refine (alike_any _ r.ment t.ment I.tv r'.ment t'.ment I.tw).mono ?_
    rintro e w1 ⟨rfl, hb1⟩
    have I1 := I.below hb1
    clear I y0 y1 y2 y3 y4 y5 y6 x0 x1 x2 x3 x4 x5 x6
    cases ha : Tm.alikeB t.ment t'.ment with
    | false =>
      have hfin := Lib.hid (show R = false by rw [HR.out, ha]; rfl)
      go_wp2
      go_ret
      exact ⟨by rw [hfin.out]; rfl, I1.be⟩
    | true =>
      have hcase := Lib.hid (show R = Tm.samesB t.ment.args t'.ment.args by rw [HR.out, ha]; rfl)
      have hlen := (Tm.alike_kind ha).2
      rw [I1.tv.len, I1.tw.len] at hlen
      have HL := Lib.hid hlen
      clear HR ha hlen
      have y6 := I1.bx.at.c6
      by_cases h0 : r.ment.m = 0
      · have hfin := Lib.hid (show R = true by
          rw [hcase.out]
          have := I1.tv.len
          rw [h0] at this
          rw [List.eq_nil_of_length_eq_zero this]
          rfl)
        have e0 : ((r.ment.m : Int) == 0) = true := by rw [h0]; rfl
        clear h0
        go_wp2_with fail
        go_quiet (fail)
        go_wp2
        go_ret
        exact ⟨by rw [hfin.out]; rfl, I1.be.drewN' _⟩
      · have e0 : ((r.ment.m : Int) == 0) = false := by rw [beq_eq_false_iff_ne]; omega
        have hpos : 0 < r.ment.m := by omega
        have hmn := neq_nilmap
        clear h0
        go_wp2_with fail
        go_quiet (fail)
        have I2 : SmI w r.ment t.ment r'.ment t'.ment (w1.drewN nq) := I1.below ((Below.refl _ _).drewN' _)
        generalize w1.drewN nq = W2 at *
        have HM := Lib.hid (I2.tv.args.md)
        have hml : r.ment.m ≤ maxLen := Nat.le_trans I2.tv.args.md I2.tv.args.dd
        have hml' : (r.ment.m : Int) ≤ 9223372036854775807 := by unfold maxLen at hml; omega
        clear y6 I1
        have y6 := I2.bx.at.c6
        go_wp2_with fail
        clear y6
        go_loopw [38] (fun i w' => ∃ j : Nat, j ≤ r.ment.m ∧ i = .int .i64 (j : Int) ∧ Hid (∀ (x : Nat) (a b : Tm), x < j → t.ment.args[x]? = some a → t'.ment.args[x]? = some b → Tm.sameB a b = true) ∧ SmI w r.ment t.ment r'.ment t'.ment w') (fun i _ => r.ment.m - (intOf i).toNat)
        case atStart => exact ⟨0, Nat.zero_le _, rfl, Lib.hid (fun x a b h => absurd h (by omega)), I2⟩
        case round =>
          obtain ⟨j, hj, rfl, hz, J⟩ := hrel
          clear I2
          by_cases hjm : j < r.ment.m
          · have hd1 : decide ((j : Int) < (r.ment.m : Int)) = true := by rw [decide_eq_true_iff]; omega
            obtain ⟨b, o, ra, ta, e, hlt, h7, het, htv⟩ := J.tv.args.get j hjm
            obtain ⟨b', o', rb, tb, e', hlt', h7', het', htv'⟩ := J.tw.args.get j (by rw [← HL.out]; exact hjm)
            have hma := hmem.out _ (List.mem_of_getElem? het)
            have x6 : wr.cell? ⟨w.heap.size, 6, none⟩ = some (.slice r.ment.B r.ment.m r.ment.d) := J.bx.at.c6
            have x6' : wr.cell? ⟨w.heap.size + 1, 6, none⟩ = some (.slice r'.ment.B r'.ment.m r'.ment.d) := J.ix.at.c6
            rw [e] at x6
            rw [e', ← HL.out] at x6'
            clear e e'
            have d0 := h7.c0; have d1 := h7.c1; have d2 := h7.c2; have d3 := h7.c3; have d4 := h7.c4; have d5 := h7.c5; have d6 := h7.c6; have c0 := h7'.c0; have c1 := h7'.c1; have c2 := h7'.c2; have c3 := h7'.c3; have c4 := h7'.c4; have c5 := h7'.c5; have c6 := h7'.c6
            have H7 := Lib.hid h7
            have H7' := Lib.hid h7'
            clear h7 h7'
            have HJ := Lib.hid J
            have IA := Lib.hid (IH.out ta hma)
            clear J
            go_wp2_with fail
            go_region_held3 (fun w' => w'.cell? ⟨w.heap.size, 6, none⟩ = some (.slice (some ⟨b, o, none⟩) r.ment.m r.ment.d) ∧ w'.cell? ⟨w.heap.size + 1, 6, none⟩ = some (.slice (some ⟨b', o', none⟩) r.ment.m r'.ment.d) ∧ w'.cell? ⟨b, o + j * 7, none⟩ = some (.int .i64 ra.k) ∧ w'.cell? ⟨b, o + j * 7 + 1, none⟩ = some (.int .i64 ra.n) ∧ w'.cell? ⟨b, o + j * 7 + 2, none⟩ = some (.bool ra.g) ∧ w'.cell? ⟨b, o + j * 7 + 3, none⟩ = some (.slice ra.A ra.ln ra.lc) ∧ w'.cell? ⟨b, o + j * 7 + 4, none⟩ = some (.int .u64 ra.u) ∧ w'.cell? ⟨b, o + j * 7 + 5, none⟩ = some (.string ra.s) ∧ w'.cell? ⟨b, o + j * 7 + 6, none⟩ = some (.slice ra.B ra.m ra.d) ∧ w'.cell? ⟨b', o' + j * 7, none⟩ = some (.int .i64 rb.k) ∧ w'.cell? ⟨b', o' + j * 7 + 1, none⟩ = some (.int .i64 rb.n) ∧ w'.cell? ⟨b', o' + j * 7 + 2, none⟩ = some (.bool rb.g) ∧ w'.cell? ⟨b', o' + j * 7 + 3, none⟩ = some (.slice rb.A rb.ln rb.lc) ∧ w'.cell? ⟨b', o' + j * 7 + 4, none⟩ = some (.int .u64 rb.u) ∧ w'.cell? ⟨b', o' + j * 7 + 5, none⟩ = some (.string rb.s) ∧ w'.cell? ⟨b', o' + j * 7 + 6, none⟩ = some (.slice rb.B rb.m rb.d))
              (first | exact ⟨x6, x6', d0, d1, d2, d3, d4, d5, d6, c0, c1, c2, c3, c4, c5, c6⟩ | exact KS.out)
              (first
                | (go_at_call 40; refine (IA.out wr.drew ra rb tb (by exact htv.bel (Below.refl _ _).drew) (by exact htv'.bel (Below.refl _ _).drew)).mono ?_; rintro e v ⟨rfl, hv⟩; have J3 := Lib.hid (HJ.out.drew.below hv); have KS := Lib.hid (pairS (W := wr.drew) hv HJ.out.bx.lt HJ.out.ix.lt x6 x6' (H7.out.below (Below.refl _ _).drew hlt) hlt (H7'.out.below (Below.refl _ _).drew hlt') hlt'); clear hv))
            clear x6 x6' d0 d1 d2 d3 d4 d5 d6 c0 c1 c2 c3 c4 c5 c6
            cases hf : Tm.sameB ta tb with
            | false =>
              have hfi := Lib.hid (show R = false by rw [hcase.out]; exact Tm.samesB_no het het' hf)
              go_wp2
              go_ret
              exact ⟨by rw [hfi.out]; rfl, J3.out.be⟩
            | true =>
              have hst := Lib.hid (show ∀ (x : Nat) (a b : Tm), x < j + 1 → t.ment.args[x]? = some a → t'.ment.args[x]? = some b → Tm.sameB a b = true from fun x a b h1 h2 h3 => by
                by_cases e : x = j
                · subst e
                  rw [het] at h2
                  rw [het'] at h3
                  cases h2
                  cases h3
                  exact hf
                · exact hz.out x a b (by omega) h2 h3)
              go_wp2_with fail
              go_roundw
              case rel => exact ⟨j + 1, by omega, by go_num, hst, J3.out⟩
              case measure => simp [intOf]; omega
          · have hd1 : decide ((j : Int) < (r.ment.m : Int)) = false := by rw [decide_eq_false_iff_not]; omega
            have hfi := Lib.hid (show R = true by
              rw [hcase.out]
              refine Tm.samesB_yes ?_ (fun x a b h1 h2 => hz.out x a b ?_ h1 h2)
              · rw [J.tv.len, J.tw.len]; exact HL.out
              · have := (List.getElem?_eq_some_iff.1 h1).1
                rw [J.tv.len] at this
                omega)
            go_wp2
            go_ret
            exact ⟨by rw [hfi.out]; rfl, J.be⟩
end Go.Proofs.Ytbpihjcghmmacaa
