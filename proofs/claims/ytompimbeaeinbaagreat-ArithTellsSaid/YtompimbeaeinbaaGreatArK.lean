/-
  Do OF ANY TERMS, AS ONE CONTRACT; what operations come to, of valid numbers.
-/
import Derived.Test.YtompimbeaeinbaaGreatArJ
namespace Go.Proofs.YtompimbeaeinbaaGreat
open Go.RowKit

/-- The reason, and the term, that Do leaves. -/
def rsO (o : Option Tm) : Int := if o.isSome then -1 else 1
def mdO (o : Option Tm) : Tm := o.getD zeroT
/-- What Do leaves. -/
def DoP (w : World) (o : Option Tm) (e : Ending) (w' : World) : Prop :=
  ∃ R : TR, e = .returned (.tuple #[.agg #[.int .i64 R.k, .int .i64 R.n, .bool R.g, .slice R.A R.ln R.lc, .int .u64 R.u, .string R.s, .slice R.B R.m R.d], .int .i64 (rsO o)]) ∧ TV w' R (mdO o) ∧ Own w' w.heap.size R.A R.ln R.lc (mdO o).mag ∧ R.m = 0 ∧ Below w.heap.size w w'
set_option maxRecDepth 100000 in
theorem zero_ok : zeroT.Ok := by simp [zeroT, Tm.Ok, Tm.Oks, ByteArray.size]
set_option maxRecDepth 100000 in
theorem do_any (w : World) (op : Int) (r r' : TR) (t t' : Tm) (h : TV w r t) (h' : TV w r' t') (ho : t.Ok) (ho' : t'.Ok) :
    Calls Tryz.prog 6 #[.int .i64 op, .agg #[.int .i64 r.k, .int .i64 r.n, .bool r.g, .slice r.A r.ln r.lc, .int .u64 r.u, .string r.s, .slice r.B r.m r.d], .agg #[.int .i64 r'.k, .int .i64 r'.n, .bool r'.g, .slice r'.A r'.ln r'.lc, .int .u64 r'.u, .string r'.s, .slice r'.B r'.m r'.d]] w (DoP w (doO op t t')) := by
  cases hd : doO op t t' with
  | some u =>
    refine (do_yes w op r r' t t' h h' ho ho' u hd).mono ?_
    rintro e w' ⟨R, rfl, a, b, c, d⟩
    exact ⟨R, rfl, a, b, c, d⟩
  | none =>
    refine (do_no w op r r' t t' h h' ho ho' hd).mono ?_
    rintro e w' ⟨rfl, d⟩
    exact ⟨zeroR, rfl, TV.zero, Own.nil _ _, rfl, d⟩

set_option maxRecDepth 100000 in
theorem flO_comm {op : Int} (h : op = 5 ∨ op = 7) (x y : Int) : flO op x y = flO op y x := by
  rcases h with rfl | rfl
  · show some (opI .add x y) = some (opI .add y x); rw [ed_comm1]
  · show some (opI .mul x y) = some (opI .mul y x); rw [ed_comm2]
set_option maxRecDepth 100000 in
theorem whO_comm {op : Int} (h : op = 5 ∨ op = 7) (x y : Int) : whO op x y = whO op y x := by
  rcases h with rfl | rfl
  · show ifFits (x + y) = ifFits (y + x); rw [Int.add_comm]
  · show ifFits (x * y) = ifFits (y * x); rw [Int.mul_comm]
set_option maxRecDepth 100000 in
theorem doO_comm {op : Int} (h : op = 5 ∨ op = 7) (a b : Tm) : doO op a b = doO op b a := by
  unfold doO
  by_cases hk : op = 8 ∨ a.kind = 3 ∨ b.kind = 3
  · rw [if_pos hk, if_pos (hk.imp id Or.symm)]
    cases a.fltO with
    | none => cases b.fltO <;> rfl
    | some x =>
      cases b.fltO with
      | none => rfl
      | some y => simp only [Option.bind_some, flO_comm h x y]
  · rw [if_neg hk, if_neg (fun e => hk (e.imp id Or.symm))]
    cases a.intO with
    | none => cases b.intO <;> rfl
    | some x =>
      cases b.intO with
      | none => rfl
      | some y => simp only [Option.bind_some, whO_comm h x y]

/-- Is the kind a number's? -/
def nbB (k : Int) : Bool := (k == 1) || (k == 2) || (k == 3)
set_option maxRecDepth 100000 in
theorem intO_may {t : Tm} (hm : t.mayB = true) (hk : t.kind = 1 ∨ t.kind = 2) : ∃ z, t.intO = some z := by
  unfold Tm.intO
  rw [if_pos hm]
  rcases hk with hk | hk
  · exact ⟨_, if_pos hk⟩
  · rw [if_neg (by rw [hk]; decide)]
    exact ⟨_, if_pos hk⟩
set_option maxRecDepth 100000 in
theorem intO_kind {t : Tm} (h1 : t.kind ≠ 1) (h2 : t.kind ≠ 2) : t.intO = none := by
  simp [Tm.intO, h1, h2]
set_option maxRecDepth 100000 in
theorem nb_iff {k : Int} : nbB k = true ↔ k = 1 ∨ k = 2 ∨ k = 3 := by simp [nbB, or_assoc]
set_option maxRecDepth 100000 in
theorem fltO_may {t : Tm} (hm : t.mayB = true) (hk : nbB t.kind = true) : ∃ x, t.fltO = some x := by
  unfold Tm.fltO
  by_cases h3 : t.kind = 3
  · exact ⟨_, if_pos ⟨hm, h3⟩⟩
  · rw [if_neg (fun h => h3 h.2)]
    have hk' := nb_iff.1 hk
    obtain ⟨z, hz⟩ := intO_may hm (by omega)
    exact ⟨fR z, by rw [hz]; rfl⟩
set_option maxRecDepth 100000 in
theorem fltO_kind {t : Tm} (hk : nbB t.kind = false) : t.fltO = none := by
  have h : ¬ (t.kind = 1 ∨ t.kind = 2 ∨ t.kind = 3) := fun e => by rw [nb_iff.2 e] at hk; cases hk
  unfold Tm.fltO
  rw [if_neg (fun e => h (.inr (.inr e.2))), intO_kind (fun e => h (.inl e)) (fun e => h (.inr (.inl e)))]
  rfl
set_option maxRecDepth 100000 in
theorem intO_nb {t : Tm} (hk : nbB t.kind = false) : t.intO = none := by
  have h : ¬ (t.kind = 1 ∨ t.kind = 2 ∨ t.kind = 3) := fun e => by rw [nb_iff.2 e] at hk; cases hk
  exact intO_kind (fun e => h (.inl e)) (fun e => h (.inr (.inl e)))
set_option maxRecDepth 100000 in
theorem doO_nb {op : Int} {a b : Tm} (h : (nbB a.kind && nbB b.kind) = false) : doO op a b = none := by
  have h' : nbB a.kind = false ∨ nbB b.kind = false := by
    cases ha : nbB a.kind with
    | false => exact .inl rfl
    | true => rw [ha] at h; exact .inr (by simpa using h)
  unfold doO
  split
  · rcases h' with h' | h'
    · rw [fltO_kind h']; rfl
    · rw [fltO_kind h']
      cases a.fltO <;> rfl
  · rcases h' with h' | h'
    · rw [intO_nb h']; rfl
    · rw [intO_nb h']
      cases a.intO <;> rfl
set_option maxRecDepth 100000 in
theorem doO_div {a b : Tm} (ha : a.mayB = true) (hb : b.mayB = true) (h : (nbB a.kind && nbB b.kind) = true) : ∃ v, doO 8 a b = some (fltT v) ∧ Cl v := by
  simp only [Bool.and_eq_true] at h
  obtain ⟨x, hx⟩ := fltO_may ha h.1
  obtain ⟨y, hy⟩ := fltO_may hb h.2
  exact ⟨_, doO_flt (.inl rfl) hx hy rfl, cl_op _ _ _⟩
set_option maxRecDepth 100000 in
/-- What comes may be, and is a float just if one of both is, or it was divided. -/
theorem ifFits_top {z v : Int} (h : ifFits z = some v) : v.natAbs < Lm.top := by
  obtain ⟨rfl, hf⟩ := ifFits_some h
  exact of_decide_eq_true hf
set_option maxRecDepth 100000 in
theorem whO_top {op x y v : Int} (h : whO op x y = some v) : v.natAbs < Lm.top := by
  unfold whO at h
  split at h
  · exact ifFits_top h
  split at h
  · exact ifFits_top h
  split at h
  · exact ifFits_top h
  · simp at h
set_option maxRecDepth 100000 in
theorem doO_made {op : Int} {a b u : Tm} (h : doO op a b = some u) : u.mayB = true ∧ u.Ok ∧ (u.kind == 3) = decide (op = 8 ∨ a.kind = 3 ∨ b.kind = 3) := by
  unfold doO at h
  split at h
  next hk =>
    cases hx : a.fltO with
    | none => rw [hx] at h; simp at h
    | some x =>
      cases hy : b.fltO with
      | none => rw [hx, hy] at h; simp at h
      | some y =>
        rw [hx, hy] at h
        simp only [Option.bind_some] at h
        cases hv : flO op x y with
        | none => rw [hv] at h; simp at h
        | some v =>
          rw [hv] at h
          obtain rfl := Option.some.inj h
          exact ⟨flt_may (flO_cl hv), flt_ok v, by rw [decide_eq_true hk]; rfl⟩
  next hk =>
    cases hx : a.intO with
    | none => rw [hx] at h; simp at h
    | some x =>
      cases hy : b.intO with
      | none => rw [hx, hy] at h; simp at h
      | some y =>
        rw [hx, hy] at h
        simp only [Option.bind_some] at h
        cases hv : whO op x y with
        | none => rw [hv] at h; simp at h
        | some v =>
          rw [hv] at h
          obtain rfl := Option.some.inj h
          have ht := whO_top hv
          exact ⟨int_may ht, int_ok ht, by rw [decide_eq_false hk]; exact beq_eq_false_iff_ne.2 (int_kind3 ht)⟩
set_option maxRecDepth 100000 in
theorem mdO_ok (op : Int) (a b : Tm) : (mdO (doO op a b)).Ok := by
  cases h : doO op a b with
  | none => exact zero_ok
  | some u => exact (doO_made h).2.1
set_option maxRecDepth 100000 in
/-- A difference is the sum with what is turned. -/
theorem doO_turn {a b : Tm} {x y : Int} (ha : a.kind ≠ 3) (hb : b.kind ≠ 3) (hx : a.intO = some x) (hy : b.intO = some y) (ty : y.natAbs < Lm.top) :
    doO 7 b (intT (-1)) = some (intT (-y)) ∧ doO 5 a (intT (-y)) = doO 6 a b := by
  have t1 : ((-1 : Int)).natAbs < Lm.top := top64 (by omega) (by omega)
  have t2 : (-y).natAbs < Lm.top := by rw [Int.natAbs_neg]; exact ty
  refine ⟨doO_int (by decide) hb (int_kind3 t1) hy (intO_int t1) ?_, ?_⟩
  · show ifFits (y * -1) = _
    rw [show y * -1 = -y by omega]
    unfold ifFits
    rw [if_pos (show fits (-y) = true from decide_eq_true t2)]
  · unfold doO
    rw [if_neg (fun h => h.elim (by decide) (fun h => h.elim ha (int_kind3 t2))), if_neg (fun h => h.elim (by decide) (fun h => h.elim ha hb)), hx, hy, intO_int t2]
    simp only [Option.bind_some]
    show (ifFits (x + -y)).map intT = (ifFits (x - y)).map intT
    rw [show x + -y = x - y by omega]
set_option maxRecDepth 100000 in
/-- A term of one's own stays as a variable of an elder block is written. -/
theorem made_keep {v : World} {R : TR} {t : Tm} {base g : Nat} (T : TV v R t) (O : Own v base R.A R.ln R.lc t.mag) (hm : R.m = 0) (hg : g < base) (R' : TR) : TV (put7 v g R') R t :=
  ((TVS.leafy (S := fun b => base ≤ b) T (fun _ a e => by rw [e] at O; exact (World.ownsRow.lt O.2.2 a.block rfl).1) hm).keep ((Keeps.refl _ v).put7 (by omega) R')).tv
end Go.Proofs.YtompimbeaeinbaaGreat
