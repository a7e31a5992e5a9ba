/-
  THE LAW RealOrder.
-/
import Derived.Test.YtgencmjdejgkoaaFltAw
namespace Go.Proofs.Ytgencmjdejgkoaa
open Go.RowKit

/-- A float that may be. -/
structure Cl (a : Int) : Prop where
  u : U64 a
  n : Fl.nanB a.toNat = true → a = 9221120237041090561
theorem nan_NAN : Fl.nanB (9221120237041090561 : Int).toNat = true := by decide
theorem cl_clean {a : Int} (h : U64 a) : Cl (cleanI a) := by
  refine ⟨cleanI_u64 h, fun hn => ?_⟩
  unfold cleanI cleanN at hn ⊢
  split
  · rfl
  · rename_i h1
    rw [if_neg h1, Int.toNat_natCast] at hn
    exact absurd hn h1
theorem cmpI_anti (a b : Int) : cmpI b a = -cmpI a b := by
  unfold cmpI cmpN
  generalize keyZ a.toNat = x
  generalize keyZ b.toNat = y
  rcases Int.lt_trichotomy x y with h | h | h
  · rw [if_neg (by omega), if_pos h, if_pos h]; rfl
  · subst h
    rw [if_neg (by omega), if_neg (by omega)]; rfl
  · rw [if_pos h, if_neg (by omega), if_pos h]
theorem cmpI_lt {a b : Int} : cmpI a b = -1 ↔ keyZ a.toNat < keyZ b.toNat := by
  unfold cmpI cmpN; split
  · simp; assumption
  · split <;> simp <;> omega
theorem cmpI_gt {a b : Int} : cmpI a b = 1 ↔ keyZ b.toNat < keyZ a.toNat := by
  unfold cmpI cmpN; split
  · simp; omega
  · split
    · simp; assumption
    · simp; omega
theorem cmpI_eq {a b : Int} : cmpI a b = 0 ↔ keyZ a.toNat = keyZ b.toNat := by
  unfold cmpI cmpN; split
  · simp; omega
  · split
    · simp; omega
    · simp; omega
theorem cmpI_3 (a b : Int) : cmpI a b = -1 ∨ cmpI a b = 0 ∨ cmpI a b = 1 := by
  unfold cmpI cmpN; split
  · exact Or.inl rfl
  · split
    · exact Or.inr (Or.inr rfl)
    · exact Or.inr (Or.inl rfl)
theorem key_inj {a b : Int} (ha : Cl a) (hb : Cl b) (h : keyZ a.toNat = keyZ b.toNat) : a = b := by
  cases na : Fl.nanB a.toNat with
  | true =>
    cases nb : Fl.nanB b.toNat with
    | true => rw [ha.n na, hb.n nb]
    | false => have := keyZ_lt nb; rw [keyZ_nan na] at h; omega
  | false =>
    cases nb : Fl.nanB b.toNat with
    | true => have := keyZ_lt na; rw [keyZ_nan nb] at h; omega
    | false =>
      have s1 := Fl.split_eq _ ha.u.nat
      have s2 := Fl.split_eq _ hb.u.nat
      have h1 := ha.u.1
      have h2 := hb.u.1
      unfold keyZ at h
      rw [na, nb] at h
      simp only [Bool.false_eq_true, if_false] at h
      cases g1 : Fl.ng a.toNat <;> cases g2 : Fl.ng b.toNat <;> rw [g1] at s1 h <;> rw [g2] at s2 h <;> simp only [Bool.false_eq_true, if_false, if_true] at s1 s2 h <;> omega
theorem f64_order_nan {a b : Nat} (h : Fl.nanB a = true ∨ Fl.nanB b = true) : FloatKind.f64.format.order a b = none := Fl.order_nan h
theorem gt_false {a b : Int} (h : keyZ a.toNat ≤ keyZ b.toNat) : (FloatKind.f64.format.order a.toNat b.toNat == some .gt) = false := by
  cases na : Fl.nanB a.toNat with
  | true => rw [f64_order_nan (Or.inl na)]; rfl
  | false =>
    cases nb : Fl.nanB b.toNat with
    | true => rw [f64_order_nan (Or.inr nb)]; rfl
    | false =>
      rw [flt_gt na nb, decide_eq_false_iff_not]
      intro hs
      have := key_mono hs
      rw [keyZ_num na, keyZ_num nb] at h
      omega
theorem lt_false {a b : Int} (h : keyZ b.toNat ≤ keyZ a.toNat) : (FloatKind.f64.format.order a.toNat b.toNat == some .lt) = false := by
  cases na : Fl.nanB a.toNat with
  | true => rw [f64_order_nan (Or.inl na)]; rfl
  | false =>
    cases nb : Fl.nanB b.toNat with
    | true => rw [f64_order_nan (Or.inr nb)]; rfl
    | false =>
      rw [flt_lt na nb, decide_eq_false_iff_not]
      intro hs
      have := key_mono hs
      rw [keyZ_num na, keyZ_num nb] at h
      omega
theorem nan_top {a : Int} (ha : Cl a) (h : a ≠ 9221120237041090561) : cmpI a 9221120237041090561 = -1 := by
  rw [cmpI_lt, keyZ_nan nan_NAN]
  cases na : Fl.nanB a.toNat with
  | true => exact absurd (ha.n na) h
  | false => exact keyZ_lt na
theorem u64_NAN : U64 9221120237041090561 := by unfold U64; decide

/-- What the law asks of three that are compared. -/
structure Tri (x y z : Int) : Prop where
  le : x ≤ 0 → y ≤ 0 → ¬ 0 < z
  ge : 0 ≤ x → 0 ≤ y → ¬ z < 0
theorem tri (a b c : Int) : Tri (cmpI a b) (cmpI b c) (cmpI a c) := by
  constructor
  · intro h1 h2 h3
    rcases cmpI_3 a b with e1 | e1 | e1 <;> rcases cmpI_3 b c with e2 | e2 | e2 <;> rcases cmpI_3 a c with e3 | e3 | e3 <;> (try omega) <;>
      (first | rw [cmpI_lt] at e1 | rw [cmpI_eq] at e1) <;> (first | rw [cmpI_lt] at e2 | rw [cmpI_eq] at e2) <;> rw [cmpI_gt] at e3 <;> omega
  · intro h1 h2 h3
    rcases cmpI_3 a b with e1 | e1 | e1 <;> rcases cmpI_3 b c with e2 | e2 | e2 <;> rcases cmpI_3 a c with e3 | e3 | e3 <;> (try omega) <;>
      (first | rw [cmpI_gt] at e1 | rw [cmpI_eq] at e1) <;> (first | rw [cmpI_gt] at e2 | rw [cmpI_eq] at e2) <;> rw [cmpI_lt] at e3 <;> omega

set_option maxRecDepth 100000 in
set_option maxHeartbeats 8000000 in
theorem realOrder_at (a b c x y z t : Int) (h1 : U64 a) (h2 : U64 b) (h3 : U64 c) (hx : ∀ w, Calls Try.prog 18 #[.int .u64 (cleanI a), .int .u64 (cleanI b)] w fun e w' => e = .returned (.int .i64 x) ∧ w = w')
    (hy : ∀ w, Calls Try.prog 18 #[.int .u64 (cleanI b), .int .u64 (cleanI c)] w fun e w' => e = .returned (.int .i64 y) ∧ w = w')
    (hz : ∀ w, Calls Try.prog 18 #[.int .u64 (cleanI a), .int .u64 (cleanI c)] w fun e w' => e = .returned (.int .i64 z) ∧ w = w')
    (hr : ∀ w, Calls Try.prog 18 #[.int .u64 (cleanI b), .int .u64 (cleanI a)] w fun e w' => e = .returned (.int .i64 t) ∧ w = w')
    (hs : Hid (x = -1 ∧ t = 1 ∧ (cleanI a == cleanI b) = false ∧ (FloatKind.f64.format.order (cleanI a).toNat (cleanI b).toNat == some .gt) = false ∨ x = 1 ∧ t = -1 ∧ (cleanI a == cleanI b) = false ∧ (FloatKind.f64.format.order (cleanI a).toNat (cleanI b).toNat == some .lt) = false ∨ x = 0 ∧ t = 0 ∧ (cleanI a == cleanI b) = true ∧ (FloatKind.f64.format.order (cleanI a).toNat (cleanI b).toNat == some .lt) = false ∧ (FloatKind.f64.format.order (cleanI a).toNat (cleanI b).toNat == some .gt) = false))
    (T : Hid (Tri x y z)) (w : World) :
    Calls Try.prog 5 #[.int .u64 a, .int .u64 b, .int .u64 c] w fun e w' => e = .returned (.bool true) ∧ Below w.heap.size w w' := by
  have c1 := call_frombits
  have ha := cl_clean h1
  have hn : Hid ((cleanI a == 9221120237041090561) = true ∨ (cleanI a == 9221120237041090561) = false ∧ ∀ w, Calls Try.prog 18 #[.int .u64 (cleanI a), .int .u64 9221120237041090561] w fun e w' => e = .returned (.int .i64 (-1)) ∧ w = w') := Lib.hid (by
    by_cases h : cleanI a = 9221120237041090561
    · exact Or.inl (beq_iff_eq.2 h)
    · refine Or.inr ⟨beq_eq_false_iff_ne.2 h, fun w => ?_⟩
      have := fCmp_any w _ _ ha.u u64_NAN
      rwa [nan_top ha h] at this)
  have d1 := fun w => clean_any w a h1
  have d2 := fun w => clean_any w b h2
  have d3 := fun w => clean_any w c h3
  clear h1 h2 h3 ha
  generalize cleanI a = A at *
  generalize cleanI b = B at *
  generalize cleanI c = C at *
  rcases hs.out with ⟨e1, e2, e3, e4⟩ | ⟨e1, e2, e3, e4⟩ | ⟨e1, e2, e3, e4, e5⟩
  · subst e1 e2
    have t1 : y ≤ 0 → ¬ 0 < z := fun h => T.out.le (by omega) h
    clear hs T
    rcases hn.out with n1 | ⟨n1, n2⟩
    all_goals clear hn
    · go_enter Try.func5, Try.ntmps5
      go_wp2_with fail
      refine (d1 _).mono ?_
      rintro e w' ⟨rfl, rfl⟩
      go_wp2_with fail
      refine (d2 _).mono ?_
      rintro e w' ⟨rfl, rfl⟩
      go_wp2_with fail
      refine (d3 _).mono ?_
      rintro e w' ⟨rfl, rfl⟩
      go_wp2_with fail
      refine (hx _).mono ?_
      rintro e w' ⟨rfl, rfl⟩
      go_wp2_with fail
      refine (hy _).mono ?_
      rintro e w' ⟨rfl, rfl⟩
      go_wp2_with fail
      refine (hz _).mono ?_
      rintro e w' ⟨rfl, rfl⟩
      go_wp2_with fail
      refine (hr _).mono ?_
      rintro e w' ⟨rfl, rfl⟩
      go_wp2_with (go_at_call 24; refine (awake_flt _).mono ?_; rintro e w9 ⟨rfl, hb9⟩)
      all_goals (go_ret; exact ⟨rfl, hb9⟩)
    · go_enter Try.func5, Try.ntmps5
      go_wp2_with fail
      refine (d1 _).mono ?_
      rintro e w' ⟨rfl, rfl⟩
      go_wp2_with fail
      refine (d2 _).mono ?_
      rintro e w' ⟨rfl, rfl⟩
      go_wp2_with fail
      refine (d3 _).mono ?_
      rintro e w' ⟨rfl, rfl⟩
      go_wp2_with fail
      refine (hx _).mono ?_
      rintro e w' ⟨rfl, rfl⟩
      go_wp2_with fail
      refine (hy _).mono ?_
      rintro e w' ⟨rfl, rfl⟩
      go_wp2_with fail
      refine (hz _).mono ?_
      rintro e w' ⟨rfl, rfl⟩
      go_wp2_with fail
      refine (hr _).mono ?_
      rintro e w' ⟨rfl, rfl⟩
      go_wp2_with (first
        | (go_at_call 24; refine (awake_flt _).mono ?_; rintro e w9 ⟨rfl, hb9⟩)
        | (go_at_call 18; refine (n2 _).mono ?_; rintro e w' ⟨rfl, rfl⟩))
      all_goals (go_ret; exact ⟨rfl, hb9⟩)
  · subst e1 e2
    have t1 : 0 ≤ y → ¬ z < 0 := fun h => T.out.ge (by omega) h
    clear hs T
    rcases hn.out with n1 | ⟨n1, n2⟩
    all_goals clear hn
    · go_enter Try.func5, Try.ntmps5
      go_wp2_with fail
      refine (d1 _).mono ?_
      rintro e w' ⟨rfl, rfl⟩
      go_wp2_with fail
      refine (d2 _).mono ?_
      rintro e w' ⟨rfl, rfl⟩
      go_wp2_with fail
      refine (d3 _).mono ?_
      rintro e w' ⟨rfl, rfl⟩
      go_wp2_with fail
      refine (hx _).mono ?_
      rintro e w' ⟨rfl, rfl⟩
      go_wp2_with fail
      refine (hy _).mono ?_
      rintro e w' ⟨rfl, rfl⟩
      go_wp2_with fail
      refine (hz _).mono ?_
      rintro e w' ⟨rfl, rfl⟩
      go_wp2_with fail
      refine (hr _).mono ?_
      rintro e w' ⟨rfl, rfl⟩
      go_wp2_with (go_at_call 24; refine (awake_flt _).mono ?_; rintro e w9 ⟨rfl, hb9⟩)
      all_goals (go_ret; exact ⟨rfl, hb9⟩)
    · go_enter Try.func5, Try.ntmps5
      go_wp2_with fail
      refine (d1 _).mono ?_
      rintro e w' ⟨rfl, rfl⟩
      go_wp2_with fail
      refine (d2 _).mono ?_
      rintro e w' ⟨rfl, rfl⟩
      go_wp2_with fail
      refine (d3 _).mono ?_
      rintro e w' ⟨rfl, rfl⟩
      go_wp2_with fail
      refine (hx _).mono ?_
      rintro e w' ⟨rfl, rfl⟩
      go_wp2_with fail
      refine (hy _).mono ?_
      rintro e w' ⟨rfl, rfl⟩
      go_wp2_with fail
      refine (hz _).mono ?_
      rintro e w' ⟨rfl, rfl⟩
      go_wp2_with fail
      refine (hr _).mono ?_
      rintro e w' ⟨rfl, rfl⟩
      go_wp2_with (first
        | (go_at_call 24; refine (awake_flt _).mono ?_; rintro e w9 ⟨rfl, hb9⟩)
        | (go_at_call 18; refine (n2 _).mono ?_; rintro e w' ⟨rfl, rfl⟩))
      all_goals (go_ret; exact ⟨rfl, hb9⟩)
  · subst e1 e2
    have t1 : y ≤ 0 → ¬ 0 < z := fun h => T.out.le (by omega) h
    have t2 : 0 ≤ y → ¬ z < 0 := fun h => T.out.ge (by omega) h
    clear hs T
    rcases hn.out with n1 | ⟨n1, n2⟩
    all_goals clear hn
    · go_enter Try.func5, Try.ntmps5
      go_wp2_with fail
      refine (d1 _).mono ?_
      rintro e w' ⟨rfl, rfl⟩
      go_wp2_with fail
      refine (d2 _).mono ?_
      rintro e w' ⟨rfl, rfl⟩
      go_wp2_with fail
      refine (d3 _).mono ?_
      rintro e w' ⟨rfl, rfl⟩
      go_wp2_with fail
      refine (hx _).mono ?_
      rintro e w' ⟨rfl, rfl⟩
      go_wp2_with fail
      refine (hy _).mono ?_
      rintro e w' ⟨rfl, rfl⟩
      go_wp2_with fail
      refine (hz _).mono ?_
      rintro e w' ⟨rfl, rfl⟩
      go_wp2_with fail
      refine (hr _).mono ?_
      rintro e w' ⟨rfl, rfl⟩
      go_wp2_with (go_at_call 24; refine (awake_flt _).mono ?_; rintro e w9 ⟨rfl, hb9⟩)
      all_goals (go_ret; exact ⟨rfl, hb9⟩)
    · go_enter Try.func5, Try.ntmps5
      go_wp2_with fail
      refine (d1 _).mono ?_
      rintro e w' ⟨rfl, rfl⟩
      go_wp2_with fail
      refine (d2 _).mono ?_
      rintro e w' ⟨rfl, rfl⟩
      go_wp2_with fail
      refine (d3 _).mono ?_
      rintro e w' ⟨rfl, rfl⟩
      go_wp2_with fail
      refine (hx _).mono ?_
      rintro e w' ⟨rfl, rfl⟩
      go_wp2_with fail
      refine (hy _).mono ?_
      rintro e w' ⟨rfl, rfl⟩
      go_wp2_with fail
      refine (hz _).mono ?_
      rintro e w' ⟨rfl, rfl⟩
      go_wp2_with fail
      refine (hr _).mono ?_
      rintro e w' ⟨rfl, rfl⟩
      go_wp2_with (first
        | (go_at_call 24; refine (awake_flt _).mono ?_; rintro e w9 ⟨rfl, hb9⟩)
        | (go_at_call 18; refine (n2 _).mono ?_; rintro e w' ⟨rfl, rfl⟩))
      all_goals (go_ret; exact ⟨rfl, hb9⟩)

theorem realOrder_walk (a b c : Int) (h1 : U64 a) (h2 : U64 b) (h3 : U64 c) (w : World) :
    Calls Try.prog 5 #[.int .u64 a, .int .u64 b, .int .u64 c] w fun e w' => e = .returned (.bool true) ∧ Below w.heap.size w w' := by
  have ha := cl_clean h1
  have hb := cl_clean h2
  have hc := cl_clean h3
  refine realOrder_at a b c _ _ _ _ h1 h2 h3 (fun w => fCmp_any w _ _ ha.u hb.u) (fun w => fCmp_any w _ _ hb.u hc.u) (fun w => fCmp_any w _ _ ha.u hc.u) (fun w => fCmp_any w _ _ hb.u ha.u) (Lib.hid ?_) (Lib.hid (tri _ _ _)) w
  rw [cmpI_anti (cleanI a) (cleanI b)]
  rcases cmpI_3 (cleanI a) (cleanI b) with h | h | h
  · refine Or.inl ⟨h, by rw [h]; rfl, ?_, gt_false (Int.le_of_lt (cmpI_lt.1 h))⟩
    rw [beq_eq_false_iff_ne]
    intro e
    have := cmpI_lt.1 h
    rw [e] at this
    omega
  · have e := key_inj ha hb (cmpI_eq.1 h)
    refine Or.inr (Or.inr ⟨h, by rw [h]; rfl, by rw [beq_iff_eq]; exact e, lt_false (by rw [e]; omega), gt_false (by rw [e]; omega)⟩)
  · refine Or.inr (Or.inl ⟨h, by rw [h], ?_, lt_false (Int.le_of_lt (cmpI_gt.1 h))⟩)
    rw [beq_eq_false_iff_ne]
    intro e
    have := cmpI_gt.1 h
    rw [e] at this
    omega
end Go.Proofs.Ytgencmjdejgkoaa
