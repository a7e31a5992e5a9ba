/-
  THE REFERENCE's Do of any terms (chapter 6).
-/
import Derived.Test.YtompimbeaeinbaaGreatRfB
import Derived.Test.YtompimbeaeinbaaGreatRfC
namespace Go.Proofs.YtompimbeaeinbaaGreat
open Go.RowKit

set_option maxRecDepth 100000 in
theorem intO_of_flt {t : Tm} (h : t.fltO = none) : t.intO = none := by
  unfold Tm.fltO at h
  split at h
  next => simp at h
  next =>
    cases hz : t.intO with
    | none => rfl
    | some z => rw [hz] at h; simp at h
set_option maxRecDepth 100000 in
theorem intO_of_some {t : Tm} {x : Int} (h : t.fltO = some x) (hk : t.kind ≠ 3) : ∃ z, t.intO = some z := by
  unfold Tm.fltO at h
  rw [if_neg (fun e => hk e.2)] at h
  cases hz : t.intO with
  | none => rw [hz] at h; simp at h
  | some z => exact ⟨z, rfl⟩
set_option maxRecDepth 100000 in
theorem doO_l {op : Int} {t t' : Tm} (h : t.fltO = none) : doO op t t' = none := by
  unfold doO
  rw [h, intO_of_flt h]
  split <;> rfl
set_option maxRecDepth 100000 in
theorem doO_r {op : Int} {t t' : Tm} (h : t'.fltO = none) : doO op t t' = none := by
  unfold doO
  rw [h, intO_of_flt h]
  split
  · cases t.fltO <;> rfl
  · cases t.intO <;> rfl
set_option maxRecDepth 100000 in
theorem doO_out {op : Int} {t t' : Tm} (h : op < 5 ∨ 8 < op) : doO op t t' = none := by
  have hf : ∀ x y, flO op x y = none := fun x y => by
    unfold flO
    rw [if_neg (by omega), if_neg (by omega), if_neg (by omega), if_neg (by omega)]
  have hw : ∀ x y, whO op x y = none := fun x y => by
    unfold whO
    rw [if_neg (by omega), if_neg (by omega), if_neg (by omega)]
  unfold doO
  split
  · cases t.fltO with
    | none => rfl
    | some x =>
      cases t'.fltO with
      | none => rfl
      | some y => simp only [Option.bind_some, hf x y]; rfl
  · cases t.intO with
    | none => rfl
    | some x =>
      cases t'.intO with
      | none => rfl
      | some y => simp only [Option.bind_some, hw x y]; rfl
set_option maxRecDepth 100000 in
theorem doO_ints {op x y : Int} {a b : Tm} (h8 : op ≠ 8) (ha : a.kind ≠ 3) (hb : b.kind ≠ 3) (hx : a.intO = some x) (hy : b.intO = some y) : doO op a b = (whO op x y).map intT := by
  unfold doO
  rw [if_neg (fun h => h.elim h8 (fun h => h.elim ha hb)), hx, hy]
  rfl
set_option maxRecDepth 100000 in
theorem refDo_any (w : World) (op : Int) (r r' : TR) (t t' : Tm) (h : TV w r t) (h' : TV w r' t') (ho : t.Ok) (ho' : t'.Ok) :
    Calls Tryz.prog 7 #[.int .i64 op, .agg #[.int .i64 r.k, .int .i64 r.n, .bool r.g, .slice r.A r.ln r.lc, .int .u64 r.u, .string r.s, .slice r.B r.m r.d], .agg #[.int .i64 r'.k, .int .i64 r'.n, .bool r'.g, .slice r'.A r'.ln r'.lc, .int .u64 r'.u, .string r'.s, .slice r'.B r'.m r'.d]] w (RfP w (doO op t t')) := by
  cases hx : t.fltO with
  | none =>
    rw [doO_l hx]
    cases hy : t'.fltO with
    | none => exact refDo_ff w op r r' t t' h h' ho ho' hx hy
    | some y => exact refDo_ft w op r r' t t' h h' ho ho' y hx hy
  | some x =>
    cases hy : t'.fltO with
    | none => rw [doO_r hy]; exact refDo_tf w op r r' t t' h h' ho ho' x hx hy
    | some y =>
      by_cases hlo : op < 5
      · rw [doO_out (.inl hlo)]; exact refDo_lo w op r r' t t' h h' ho ho' x y hx hy hlo
      by_cases hhi : 8 < op
      · rw [doO_out (.inr hhi)]; exact refDo_hi w op r r' t t' h h' ho ho' x y hx hy hhi
      have hop : op = 5 ∨ op = 6 ∨ op = 7 ∨ op = 8 := by omega
      by_cases ka : t.kind = 3
      · rcases hop with e | e | e | e
        · rw [doO_flt (v := opI .add x y) (.inr (.inl ka)) hx hy (by rw [e]; rfl)]; exact refDo_a5 w op r r' t t' h h' ho ho' e x y hx hy ka
        · rw [doO_flt (v := opI .sub x y) (.inr (.inl ka)) hx hy (by rw [e]; rfl)]; exact refDo_a6 w op r r' t t' h h' ho ho' e x y hx hy ka
        · rw [doO_flt (v := opI .mul x y) (.inr (.inl ka)) hx hy (by rw [e]; rfl)]; exact refDo_a7 w op r r' t t' h h' ho ho' e x y hx hy ka
        · rw [doO_flt (v := opI .quo x y) (.inr (.inl ka)) hx hy (by rw [e]; rfl)]; exact refDo_a8 w op r r' t t' h h' ho ho' e x y hx hy ka
      by_cases kb : t'.kind = 3
      · rcases hop with e | e | e | e
        · rw [doO_flt (v := opI .add x y) (.inr (.inr kb)) hx hy (by rw [e]; rfl)]; exact refDo_b5 w op r r' t t' h h' ho ho' e x y hx hy ka kb
        · rw [doO_flt (v := opI .sub x y) (.inr (.inr kb)) hx hy (by rw [e]; rfl)]; exact refDo_b6 w op r r' t t' h h' ho ho' e x y hx hy ka kb
        · rw [doO_flt (v := opI .mul x y) (.inr (.inr kb)) hx hy (by rw [e]; rfl)]; exact refDo_b7 w op r r' t t' h h' ho ho' e x y hx hy ka kb
        · rw [doO_flt (v := opI .quo x y) (.inr (.inr kb)) hx hy (by rw [e]; rfl)]; exact refDo_b8 w op r r' t t' h h' ho ho' e x y hx hy ka kb
      obtain ⟨a, ha⟩ := intO_of_some hx ka
      obtain ⟨b, hb⟩ := intO_of_some hy kb
      rcases hop with e | e | e | e
      · rw [doO_ints (by omega) ka kb ha hb]; exact refDo_int5 w op r r' t t' h h' ho ho' e x y a b hx hy ha hb ka kb
      · rw [doO_ints (by omega) ka kb ha hb]; exact refDo_int6 w op r r' t t' h h' ho ho' e x y a b hx hy ha hb ka kb
      · rw [doO_ints (by omega) ka kb ha hb]; exact refDo_int7 w op r r' t t' h h' ho ho' e x y a b hx hy ha hb ka kb
      · rw [doO_flt (v := opI .quo x y) (.inl e) hx hy (by rw [e]; rfl)]; exact refDo_d8 w op r r' t t' h h' ho ho' e x y hx hy ka kb
end Go.Proofs.YtompimbeaeinbaaGreat
