/-
  THE LAW RealMirrors.
-/
import Derived.Test.YtgencmjdejgkoaaLawREdges
namespace Go.Proofs.Ytgencmjdejgkoaa
open Go.RowKit

noncomputable def turnI (a : Int) : Int := if a = 9221120237041090561 then a else (Fl.flip a.toNat : Nat)
set_option maxHeartbeats 400000 in
theorem turned_any (w : World) (a : Int) (h : U64 a) :
    Calls Try.prog 36 #[.int .u64 a] w fun e w' => e = .returned (.int .u64 (turnI a)) ∧ w = w' := by
  have bf := bits_xor h
  by_cases c : a = 9221120237041090561
  · have fin : Hid (turnI a = a) := Lib.hid (if_pos c)
    have hb : (a == 9221120237041090561) = true := beq_iff_eq.2 c
    clear c
    go_enter Try.func36, Try.ntmps36
    go_wp2
    go_ret
    rw [fin.out]
    exact ⟨rfl, rfl⟩
  · have fin : Hid (turnI a = (Fl.flip a.toNat : Nat)) := Lib.hid (if_neg c)
    have hb : (a == 9221120237041090561) = false := beq_eq_false_iff_ne.2 c
    go_enter Try.func36, Try.ntmps36
    go_wp2
    go_ret
    rw [fin.out]
    exact ⟨rfl, rfl⟩
theorem turnI_nan : turnI 9221120237041090561 = 9221120237041090561 := if_pos rfl
theorem turnI_num {a : Int} (h : a ≠ 9221120237041090561) : turnI a = (Fl.flip a.toNat : Nat) := if_neg h
theorem turnI_u64 {a : Int} (h : U64 a) : U64 (turnI a) := by
  unfold turnI
  split
  · exact h
  · exact U64.mk (Fl.flip_lt _)
theorem turnI_toNat {a : Int} (h : Cl a) : Fl.nanB (turnI a).toNat = Fl.nanB a.toNat := by
  rcases h.num with e | ⟨e, hn⟩
  · rw [e, turnI_nan]
  · rw [turnI_num e, Int.toNat_natCast, Fl.nan_flip]
theorem num_ne {r : Nat} (h : Fl.nanB r = false) : ((r : Nat) : Int) ≠ 9221120237041090561 := by
  intro e
  have : r = Fl.NAN := by have : Fl.NAN = 9221120237041090561 := rfl
                          omega
  rw [this, nanNAN] at h
  cases h
/-- An operation whose result turns. -/
theorem turn_op {op : BinOp} {a b c d : Nat} (h : floatBits op .f64 c d = (floatBits op .f64 a b).map Fl.flip) : ((opN op c d : Nat) : Int) = turnI ((opN op a b : Nat) : Int) := by
  cases hr : floatBits op .f64 a b with
  | none =>
    rw [hr] at h
    rw [opN_none h, opN_none hr]
    exact turnI_nan.symm
  | some r =>
    rw [hr] at h
    have hn := Fl.floatBits_num hr
    rw [opN_some h, opN_some hr, turnI_num (num_ne hn), Int.toNat_natCast]
theorem op_nan {op : BinOp} {a b : Int} (h : floatBits op .f64 a.toNat b.toNat = none) : opI op a b = 9221120237041090561 := by
  unfold opI; rw [opN_none h]; rfl

theorem mi_nan {a b : Int} (_ha : Cl a) (_hb : Cl b) (h : a = 9221120237041090561 ∨ b = 9221120237041090561) : Fl.nanB a.toNat = true ∨ Fl.nanB b.toNat = true := by
  rcases h with h | h
  · left; rw [h]; decide
  · right; rw [h]; decide
theorem mi_num {a b : Int} (ha : Cl a) (hb : Cl b) (h1 : a ≠ 9221120237041090561) (h2 : b ≠ 9221120237041090561) : Fl.nanB a.toNat = false ∧ Fl.nanB b.toNat = false := by
  refine ⟨?_, ?_⟩
  · rcases ha.num with e | ⟨_, hn⟩
    · exact absurd e h1
    · exact hn
  · rcases hb.num with e | ⟨_, hn⟩
    · exact absurd e h2
    · exact hn
theorem mi_add {a b : Int} (ha : Cl a) (hb : Cl b) : opI .add (turnI a) (turnI b) = turnI (opI .add a b) ∨ (Fl.rg (opI .add a b).toNat = 0 ∧ Fl.rg (opI .add (turnI a) (turnI b)).toNat = 0) := by
  by_cases h : a = 9221120237041090561 ∨ b = 9221120237041090561
  · left
    have hn := mi_nan ha hb h
    rw [op_nan (op := .add) (a := a) (b := b) (by rw [Fl.fb_add]; exact Fl.nan_add hn), op_nan (by rw [Fl.fb_add]; exact Fl.nan_add (by rw [turnI_toNat ha, turnI_toNat hb]; exact hn)), turnI_nan]
  · have h1 : a ≠ 9221120237041090561 := fun e => h (Or.inl e)
    have h2 : b ≠ 9221120237041090561 := fun e => h (Or.inr e)
    obtain ⟨n1, n2⟩ := mi_num ha hb h1 h2
    rw [turnI_num h1, turnI_num h2]
    rcases Fl.flip_add a.toNat b.toNat n1 n2 with hf | ⟨x, y, e1, e2, e3, e4⟩
    · left
      unfold opI
      rw [Int.toNat_natCast, Int.toNat_natCast]
      exact turn_op (by rw [Fl.fb_add, Fl.fb_add]; exact hf)
    · right
      unfold opI
      rw [Int.toNat_natCast, Int.toNat_natCast, Int.toNat_natCast, Int.toNat_natCast, opN_some ((Fl.fb_add _ _).trans e1), opN_some ((Fl.fb_add _ _).trans e2)]
      exact ⟨e3, e4⟩
theorem mi_mul1 {a b : Int} (ha : Cl a) (_hb : Cl b) : opI .mul (turnI a) b = turnI (opI .mul a b) := by
  rcases ha.num with e | ⟨e, hn⟩
  · subst e
    rw [turnI_nan, op_nan (op := .mul) (b := b) (by rw [Fl.fb_mul]; exact Fl.nan_mul (Or.inl nan_NAN)), turnI_nan]
  · rw [turnI_num e]
    unfold opI
    rw [Int.toNat_natCast]
    exact turn_op (by rw [Fl.fb_mul, Fl.fb_mul]; exact Fl.flip_mul _ _)
theorem mi_mul2 {a b : Int} (ha : Cl a) (hb : Cl b) : opI .mul a (turnI b) = turnI (opI .mul a b) := by
  rw [ed_comm2, mi_mul1 hb ha, ed_comm2]
theorem mi_div1 {a b : Int} (ha : Cl a) (_hb : Cl b) : opI .quo (turnI a) b = turnI (opI .quo a b) := by
  rcases ha.num with e | ⟨e, hn⟩
  · subst e
    rw [turnI_nan, op_nan (op := .quo) (b := b) (by rw [Fl.fb_quo]; exact Fl.nan_div (Or.inl nan_NAN)), turnI_nan]
  · rw [turnI_num e]
    unfold opI
    rw [Int.toNat_natCast]
    exact turn_op (by rw [Fl.fb_quo, Fl.fb_quo]; exact Fl.flip_div _ _)
theorem mi_div2 {a b : Int} (_ha : Cl a) (hb : Cl b) : opI .quo a (turnI b) = turnI (opI .quo a b) := by
  rcases hb.num with e | ⟨e, hn⟩
  · subst e
    rw [turnI_nan, op_nan (op := .quo) (a := a) (by rw [Fl.fb_quo]; exact Fl.nan_div (Or.inr nan_NAN)), turnI_nan]
  · rw [turnI_num e]
    unfold opI
    rw [Int.toNat_natCast]
    exact turn_op (by rw [Fl.fb_quo, Fl.fb_quo]; exact Fl.div_flip _ _)
theorem mi_sub {a b : Int} (_ha : Cl a) (hb : Cl b) : opI .add a (turnI b) = opI .sub a b := by
  rcases hb.num with e | ⟨e, hn⟩
  · subst e
    rw [turnI_nan, op_nan (op := .add) (a := a) (by rw [Fl.fb_add]; exact Fl.nan_add (Or.inr nan_NAN)), op_nan (op := .sub) (a := a) (by rw [Fl.fb_sub, Fl.sub_eq_add]; exact Fl.nan_add (Or.inr (by rw [Fl.nan_flip]; exact nan_NAN)))]
  · rw [turnI_num e]
    unfold opI opN
    rw [Int.toNat_natCast, Fl.fb_add, Fl.fb_sub, Fl.sub_eq_add]
theorem turn_turn {a b : Int} (ha : Cl a) (_hb : Cl b) : turnI (turnI a) = a := by
  rcases ha.num with e | ⟨e, hn⟩
  · subst e; rw [turnI_nan, turnI_nan]
  · rw [turnI_num e, turnI_num (num_ne (by rw [Fl.nan_flip]; exact hn)), Int.toNat_natCast, Fl.flip_flip ha.u.nat]
    exact toNat_back ha.u
theorem cl_turn {a b : Int} (ha : Cl a) (_hb : Cl b) : Cl (turnI a) := by
  refine ⟨turnI_u64 ha.u, fun hn => ?_⟩
  rw [turnI_toNat ha] at hn
  rw [ha.n hn, turnI_nan]
theorem mi_cmp {a b : Int} (ha : Cl a) (hb : Cl b) (h1 : a ≠ 9221120237041090561) (h2 : b ≠ 9221120237041090561) : cmpI (turnI a) (turnI b) = cmpI b a := by
  obtain ⟨n1, n2⟩ := mi_num ha hb h1 h2
  have key : ∀ c : Nat, Fl.nanB c = false → keyZ (Fl.flip c) = -1 - keyZ c := by
    intro c hc
    unfold keyZ
    rw [Fl.nan_flip, hc, Fl.flip_ng, Fl.flip_rg]
    cases Fl.ng c <;> simp <;> omega
  rw [turnI_num h1, turnI_num h2]
  unfold cmpI cmpN
  rw [Int.toNat_natCast, Int.toNat_natCast, key _ n1, key _ n2]
  generalize keyZ a.toNat = x
  generalize keyZ b.toNat = y
  rcases Int.lt_trichotomy x y with h | h | h
  · rw [if_neg (by omega), if_pos (by omega), if_neg (by omega), if_pos h]
  · subst h; rw [if_neg (by omega), if_neg (by omega), if_neg (by omega), if_neg (by omega)]
  · rw [if_pos (by omega), if_pos h]
theorem mi_mul3 {a b : Int} (ha : Cl a) (hb : Cl b) : opI .mul (turnI a) (turnI b) = opI .mul a b := by
  rw [mi_mul1 ha (cl_turn hb hb), mi_mul2 ha hb, turn_turn (cl_op .mul a b) (cl_op .mul a b)]

set_option maxRecDepth 100000 in
set_option maxHeartbeats 8000000 in
theorem realMirrors_nan1 (a b A B X Y S T S' P P' Q Q' V : Int) (b1 : (A == 9221120237041090561) = true) (hT : T = S')
    (d1 : ∀ w, Calls Try.prog 19 #[.int .u64 a] w fun e w' => e = .returned (.int .u64 A) ∧ w = w')
    (d2 : ∀ w, Calls Try.prog 19 #[.int .u64 b] w fun e w' => e = .returned (.int .u64 B) ∧ w = w')
    (t1 : ∀ w, Calls Try.prog 36 #[.int .u64 A] w fun e w' => e = .returned (.int .u64 X) ∧ w = w')
    (t2 : ∀ w, Calls Try.prog 36 #[.int .u64 B] w fun e w' => e = .returned (.int .u64 Y) ∧ w = w')
    (t3 : ∀ w, Calls Try.prog 36 #[.int .u64 S] w fun e w' => e = .returned (.int .u64 S') ∧ w = w')
    (t4 : ∀ w, Calls Try.prog 36 #[.int .u64 P] w fun e w' => e = .returned (.int .u64 P') ∧ w = w')
    (t5 : ∀ w, Calls Try.prog 36 #[.int .u64 Q] w fun e w' => e = .returned (.int .u64 Q') ∧ w = w')
    (a1 : ∀ w, Calls Try.prog 10 #[.int .u64 A, .int .u64 B] w fun e w' => e = .returned (.int .u64 S) ∧ Below w.heap.size w w')
    (a2 : ∀ w, Calls Try.prog 10 #[.int .u64 X, .int .u64 Y] w fun e w' => e = .returned (.int .u64 T) ∧ Below w.heap.size w w')
    (m1 : ∀ w, Calls Try.prog 14 #[.int .u64 X, .int .u64 B] w fun e w' => e = .returned (.int .u64 P') ∧ Below w.heap.size w w')
    (m2 : ∀ w, Calls Try.prog 14 #[.int .u64 A, .int .u64 B] w fun e w' => e = .returned (.int .u64 P) ∧ Below w.heap.size w w')
    (m3 : ∀ w, Calls Try.prog 14 #[.int .u64 X, .int .u64 Y] w fun e w' => e = .returned (.int .u64 P) ∧ Below w.heap.size w w')
    (q1 : ∀ w, Calls Try.prog 16 #[.int .u64 X, .int .u64 B] w fun e w' => e = .returned (.int .u64 Q') ∧ Below w.heap.size w w')
    (q2 : ∀ w, Calls Try.prog 16 #[.int .u64 A, .int .u64 B] w fun e w' => e = .returned (.int .u64 Q) ∧ Below w.heap.size w w')
    (q3 : ∀ w, Calls Try.prog 16 #[.int .u64 A, .int .u64 Y] w fun e w' => e = .returned (.int .u64 Q') ∧ Below w.heap.size w w')
    (s1 : ∀ w, Calls Try.prog 12 #[.int .u64 A, .int .u64 B] w fun e w' => e = .returned (.int .u64 V) ∧ Below w.heap.size w w')
    (a3 : ∀ w, Calls Try.prog 10 #[.int .u64 A, .int .u64 Y] w fun e w' => e = .returned (.int .u64 V) ∧ Below w.heap.size w w')
    (w : World) : Calls Try.prog 9 #[.int .u64 a, .int .u64 b] w fun e w' => e = .returned (.bool true) ∧ Below w.heap.size w w' := by
  subst hT
  go_enter Try.func9, Try.ntmps9
  go_wp2_with fail
  refine (d1 _).mono ?_
  rintro e w' ⟨rfl, rfl⟩
  go_wp2_with fail
  refine (d2 _).mono ?_
  rintro e w' ⟨rfl, rfl⟩
  go_wp2_with fail
  refine (t1 _).mono ?_
  rintro e w' ⟨rfl, rfl⟩
  go_wp2_with fail
  refine (t2 _).mono ?_
  rintro e w' ⟨rfl, rfl⟩
  go_wp2_with fail
  refine (a1 _).mono ?_
  rintro e w1 ⟨rfl, hb1⟩
  go_wp2_with fail
  refine (a2 _).mono ?_
  rintro e w2 ⟨rfl, hb2⟩
  go_wp2_with fail
  refine (t3 _).mono ?_
  rintro e w' ⟨rfl, rfl⟩
  go_wp2_with fail
  refine (m1 _).mono ?_
  rintro e w3 ⟨rfl, hb3⟩
  go_wp2_with fail
  refine (m2 _).mono ?_
  rintro e w4 ⟨rfl, hb4⟩
  go_wp2_with fail
  refine (t4 _).mono ?_
  rintro e w' ⟨rfl, rfl⟩
  go_wp2_with fail
  refine (m3 _).mono ?_
  rintro e w5 ⟨rfl, hb5⟩
  go_wp2_with fail
  refine (m2 _).mono ?_
  rintro e w6 ⟨rfl, hb6⟩
  go_wp2_with fail
  refine (q1 _).mono ?_
  rintro e w7 ⟨rfl, hb7⟩
  go_wp2_with fail
  refine (q2 _).mono ?_
  rintro e w8 ⟨rfl, hb8⟩
  go_wp2_with fail
  refine (t5 _).mono ?_
  rintro e w' ⟨rfl, rfl⟩
  go_wp2_with fail
  refine (q3 _).mono ?_
  rintro e w9 ⟨rfl, hb9⟩
  go_wp2_with fail
  refine (q2 _).mono ?_
  rintro e w10 ⟨rfl, hb10⟩
  go_wp2_with fail
  refine (t5 _).mono ?_
  rintro e w' ⟨rfl, rfl⟩
  go_wp2_with fail
  refine (s1 _).mono ?_
  rintro e w11 ⟨rfl, hb11⟩
  go_wp2_with fail
  refine (a3 _).mono ?_
  rintro e w12 ⟨rfl, hb12⟩
  go_wp2_with fail
  refine (awake_flt _).mono ?_
  rintro e w13 ⟨rfl, hb13⟩
  go_wp2
  go_ret
  have e1 := hb1
  have e2 := e1.trans (hb2.mono e1.size)
  have e3 := e2.trans (hb3.mono e2.size)
  have e4 := e3.trans (hb4.mono e3.size)
  have e5 := e4.trans (hb5.mono e4.size)
  have e6 := e5.trans (hb6.mono e5.size)
  have e7 := e6.trans (hb7.mono e6.size)
  have e8 := e7.trans (hb8.mono e7.size)
  have e9 := e8.trans (hb9.mono e8.size)
  have e10 := e9.trans (hb10.mono e9.size)
  have e11 := e10.trans (hb11.mono e10.size)
  have e12 := e11.trans (hb12.mono e11.size)
  have e13 := e12.trans (hb13.mono e12.size)
  exact ⟨rfl, e13⟩

set_option maxRecDepth 100000 in
set_option maxHeartbeats 8000000 in
theorem realMirrors_nan2 (a b A B X Y S T S' P P' Q Q' V : Int) (b1 : (A == 9221120237041090561) = false) (b2 : (B == 9221120237041090561) = true) (hT : T = S')
    (d1 : ∀ w, Calls Try.prog 19 #[.int .u64 a] w fun e w' => e = .returned (.int .u64 A) ∧ w = w')
    (d2 : ∀ w, Calls Try.prog 19 #[.int .u64 b] w fun e w' => e = .returned (.int .u64 B) ∧ w = w')
    (t1 : ∀ w, Calls Try.prog 36 #[.int .u64 A] w fun e w' => e = .returned (.int .u64 X) ∧ w = w')
    (t2 : ∀ w, Calls Try.prog 36 #[.int .u64 B] w fun e w' => e = .returned (.int .u64 Y) ∧ w = w')
    (t3 : ∀ w, Calls Try.prog 36 #[.int .u64 S] w fun e w' => e = .returned (.int .u64 S') ∧ w = w')
    (t4 : ∀ w, Calls Try.prog 36 #[.int .u64 P] w fun e w' => e = .returned (.int .u64 P') ∧ w = w')
    (t5 : ∀ w, Calls Try.prog 36 #[.int .u64 Q] w fun e w' => e = .returned (.int .u64 Q') ∧ w = w')
    (a1 : ∀ w, Calls Try.prog 10 #[.int .u64 A, .int .u64 B] w fun e w' => e = .returned (.int .u64 S) ∧ Below w.heap.size w w')
    (a2 : ∀ w, Calls Try.prog 10 #[.int .u64 X, .int .u64 Y] w fun e w' => e = .returned (.int .u64 T) ∧ Below w.heap.size w w')
    (m1 : ∀ w, Calls Try.prog 14 #[.int .u64 X, .int .u64 B] w fun e w' => e = .returned (.int .u64 P') ∧ Below w.heap.size w w')
    (m2 : ∀ w, Calls Try.prog 14 #[.int .u64 A, .int .u64 B] w fun e w' => e = .returned (.int .u64 P) ∧ Below w.heap.size w w')
    (m3 : ∀ w, Calls Try.prog 14 #[.int .u64 X, .int .u64 Y] w fun e w' => e = .returned (.int .u64 P) ∧ Below w.heap.size w w')
    (q1 : ∀ w, Calls Try.prog 16 #[.int .u64 X, .int .u64 B] w fun e w' => e = .returned (.int .u64 Q') ∧ Below w.heap.size w w')
    (q2 : ∀ w, Calls Try.prog 16 #[.int .u64 A, .int .u64 B] w fun e w' => e = .returned (.int .u64 Q) ∧ Below w.heap.size w w')
    (q3 : ∀ w, Calls Try.prog 16 #[.int .u64 A, .int .u64 Y] w fun e w' => e = .returned (.int .u64 Q') ∧ Below w.heap.size w w')
    (s1 : ∀ w, Calls Try.prog 12 #[.int .u64 A, .int .u64 B] w fun e w' => e = .returned (.int .u64 V) ∧ Below w.heap.size w w')
    (a3 : ∀ w, Calls Try.prog 10 #[.int .u64 A, .int .u64 Y] w fun e w' => e = .returned (.int .u64 V) ∧ Below w.heap.size w w')
    (w : World) : Calls Try.prog 9 #[.int .u64 a, .int .u64 b] w fun e w' => e = .returned (.bool true) ∧ Below w.heap.size w w' := by
  subst hT
  go_enter Try.func9, Try.ntmps9
  go_wp2_with fail
  refine (d1 _).mono ?_
  rintro e w' ⟨rfl, rfl⟩
  go_wp2_with fail
  refine (d2 _).mono ?_
  rintro e w' ⟨rfl, rfl⟩
  go_wp2_with fail
  refine (t1 _).mono ?_
  rintro e w' ⟨rfl, rfl⟩
  go_wp2_with fail
  refine (t2 _).mono ?_
  rintro e w' ⟨rfl, rfl⟩
  go_wp2_with fail
  refine (a1 _).mono ?_
  rintro e w1 ⟨rfl, hb1⟩
  go_wp2_with fail
  refine (a2 _).mono ?_
  rintro e w2 ⟨rfl, hb2⟩
  go_wp2_with fail
  refine (t3 _).mono ?_
  rintro e w' ⟨rfl, rfl⟩
  go_wp2_with fail
  refine (m1 _).mono ?_
  rintro e w3 ⟨rfl, hb3⟩
  go_wp2_with fail
  refine (m2 _).mono ?_
  rintro e w4 ⟨rfl, hb4⟩
  go_wp2_with fail
  refine (t4 _).mono ?_
  rintro e w' ⟨rfl, rfl⟩
  go_wp2_with fail
  refine (m3 _).mono ?_
  rintro e w5 ⟨rfl, hb5⟩
  go_wp2_with fail
  refine (m2 _).mono ?_
  rintro e w6 ⟨rfl, hb6⟩
  go_wp2_with fail
  refine (q1 _).mono ?_
  rintro e w7 ⟨rfl, hb7⟩
  go_wp2_with fail
  refine (q2 _).mono ?_
  rintro e w8 ⟨rfl, hb8⟩
  go_wp2_with fail
  refine (t5 _).mono ?_
  rintro e w' ⟨rfl, rfl⟩
  go_wp2_with fail
  refine (q3 _).mono ?_
  rintro e w9 ⟨rfl, hb9⟩
  go_wp2_with fail
  refine (q2 _).mono ?_
  rintro e w10 ⟨rfl, hb10⟩
  go_wp2_with fail
  refine (t5 _).mono ?_
  rintro e w' ⟨rfl, rfl⟩
  go_wp2_with fail
  refine (s1 _).mono ?_
  rintro e w11 ⟨rfl, hb11⟩
  go_wp2_with fail
  refine (a3 _).mono ?_
  rintro e w12 ⟨rfl, hb12⟩
  go_wp2_with fail
  refine (awake_flt _).mono ?_
  rintro e w13 ⟨rfl, hb13⟩
  go_wp2
  go_ret
  have e1 := hb1
  have e2 := e1.trans (hb2.mono e1.size)
  have e3 := e2.trans (hb3.mono e2.size)
  have e4 := e3.trans (hb4.mono e3.size)
  have e5 := e4.trans (hb5.mono e4.size)
  have e6 := e5.trans (hb6.mono e5.size)
  have e7 := e6.trans (hb7.mono e6.size)
  have e8 := e7.trans (hb8.mono e7.size)
  have e9 := e8.trans (hb9.mono e8.size)
  have e10 := e9.trans (hb10.mono e9.size)
  have e11 := e10.trans (hb11.mono e10.size)
  have e12 := e11.trans (hb12.mono e11.size)
  have e13 := e12.trans (hb13.mono e12.size)
  exact ⟨rfl, e13⟩

set_option maxRecDepth 100000 in
set_option maxHeartbeats 8000000 in
theorem realMirrors_num (a b A B X Y S T S' P P' Q Q' V c : Int) (b1 : (A == 9221120237041090561) = false) (b2 : (B == 9221120237041090561) = false) (hT : T = S')
    (d1 : ∀ w, Calls Try.prog 19 #[.int .u64 a] w fun e w' => e = .returned (.int .u64 A) ∧ w = w')
    (d2 : ∀ w, Calls Try.prog 19 #[.int .u64 b] w fun e w' => e = .returned (.int .u64 B) ∧ w = w')
    (t1 : ∀ w, Calls Try.prog 36 #[.int .u64 A] w fun e w' => e = .returned (.int .u64 X) ∧ w = w')
    (t2 : ∀ w, Calls Try.prog 36 #[.int .u64 B] w fun e w' => e = .returned (.int .u64 Y) ∧ w = w')
    (t3 : ∀ w, Calls Try.prog 36 #[.int .u64 S] w fun e w' => e = .returned (.int .u64 S') ∧ w = w')
    (t4 : ∀ w, Calls Try.prog 36 #[.int .u64 P] w fun e w' => e = .returned (.int .u64 P') ∧ w = w')
    (t5 : ∀ w, Calls Try.prog 36 #[.int .u64 Q] w fun e w' => e = .returned (.int .u64 Q') ∧ w = w')
    (a1 : ∀ w, Calls Try.prog 10 #[.int .u64 A, .int .u64 B] w fun e w' => e = .returned (.int .u64 S) ∧ Below w.heap.size w w')
    (a2 : ∀ w, Calls Try.prog 10 #[.int .u64 X, .int .u64 Y] w fun e w' => e = .returned (.int .u64 T) ∧ Below w.heap.size w w')
    (m1 : ∀ w, Calls Try.prog 14 #[.int .u64 X, .int .u64 B] w fun e w' => e = .returned (.int .u64 P') ∧ Below w.heap.size w w')
    (m2 : ∀ w, Calls Try.prog 14 #[.int .u64 A, .int .u64 B] w fun e w' => e = .returned (.int .u64 P) ∧ Below w.heap.size w w')
    (m3 : ∀ w, Calls Try.prog 14 #[.int .u64 X, .int .u64 Y] w fun e w' => e = .returned (.int .u64 P) ∧ Below w.heap.size w w')
    (q1 : ∀ w, Calls Try.prog 16 #[.int .u64 X, .int .u64 B] w fun e w' => e = .returned (.int .u64 Q') ∧ Below w.heap.size w w')
    (q2 : ∀ w, Calls Try.prog 16 #[.int .u64 A, .int .u64 B] w fun e w' => e = .returned (.int .u64 Q) ∧ Below w.heap.size w w')
    (q3 : ∀ w, Calls Try.prog 16 #[.int .u64 A, .int .u64 Y] w fun e w' => e = .returned (.int .u64 Q') ∧ Below w.heap.size w w')
    (s1 : ∀ w, Calls Try.prog 12 #[.int .u64 A, .int .u64 B] w fun e w' => e = .returned (.int .u64 V) ∧ Below w.heap.size w w')
    (a3 : ∀ w, Calls Try.prog 10 #[.int .u64 A, .int .u64 Y] w fun e w' => e = .returned (.int .u64 V) ∧ Below w.heap.size w w')
    (c1 : ∀ w, Calls Try.prog 18 #[.int .u64 X, .int .u64 Y] w fun e w' => e = .returned (.int .i64 c) ∧ w = w')
    (c2 : ∀ w, Calls Try.prog 18 #[.int .u64 B, .int .u64 A] w fun e w' => e = .returned (.int .i64 c) ∧ w = w')
    (w : World) : Calls Try.prog 9 #[.int .u64 a, .int .u64 b] w fun e w' => e = .returned (.bool true) ∧ Below w.heap.size w w' := by
  subst hT
  go_enter Try.func9, Try.ntmps9
  go_wp2_with fail
  refine (d1 _).mono ?_
  rintro e w' ⟨rfl, rfl⟩
  go_wp2_with fail
  refine (d2 _).mono ?_
  rintro e w' ⟨rfl, rfl⟩
  go_wp2_with fail
  refine (t1 _).mono ?_
  rintro e w' ⟨rfl, rfl⟩
  go_wp2_with fail
  refine (t2 _).mono ?_
  rintro e w' ⟨rfl, rfl⟩
  go_wp2_with fail
  refine (a1 _).mono ?_
  rintro e w1 ⟨rfl, hb1⟩
  go_wp2_with fail
  refine (a2 _).mono ?_
  rintro e w2 ⟨rfl, hb2⟩
  go_wp2_with fail
  refine (t3 _).mono ?_
  rintro e w' ⟨rfl, rfl⟩
  go_wp2_with fail
  refine (m1 _).mono ?_
  rintro e w3 ⟨rfl, hb3⟩
  go_wp2_with fail
  refine (m2 _).mono ?_
  rintro e w4 ⟨rfl, hb4⟩
  go_wp2_with fail
  refine (t4 _).mono ?_
  rintro e w' ⟨rfl, rfl⟩
  go_wp2_with fail
  refine (m3 _).mono ?_
  rintro e w5 ⟨rfl, hb5⟩
  go_wp2_with fail
  refine (m2 _).mono ?_
  rintro e w6 ⟨rfl, hb6⟩
  go_wp2_with fail
  refine (q1 _).mono ?_
  rintro e w7 ⟨rfl, hb7⟩
  go_wp2_with fail
  refine (q2 _).mono ?_
  rintro e w8 ⟨rfl, hb8⟩
  go_wp2_with fail
  refine (t5 _).mono ?_
  rintro e w' ⟨rfl, rfl⟩
  go_wp2_with fail
  refine (q3 _).mono ?_
  rintro e w9 ⟨rfl, hb9⟩
  go_wp2_with fail
  refine (q2 _).mono ?_
  rintro e w10 ⟨rfl, hb10⟩
  go_wp2_with fail
  refine (t5 _).mono ?_
  rintro e w' ⟨rfl, rfl⟩
  go_wp2_with fail
  refine (s1 _).mono ?_
  rintro e w11 ⟨rfl, hb11⟩
  go_wp2_with fail
  refine (a3 _).mono ?_
  rintro e w12 ⟨rfl, hb12⟩
  go_wp2_with fail
  refine (c1 _).mono ?_
  rintro e w' ⟨rfl, rfl⟩
  go_wp2_with fail
  refine (c2 _).mono ?_
  rintro e w' ⟨rfl, rfl⟩
  go_wp2_with fail
  refine (awake_flt _).mono ?_
  rintro e w13 ⟨rfl, hb13⟩
  go_wp2
  go_ret
  have e1 := hb1
  have e2 := e1.trans (hb2.mono e1.size)
  have e3 := e2.trans (hb3.mono e2.size)
  have e4 := e3.trans (hb4.mono e3.size)
  have e5 := e4.trans (hb5.mono e4.size)
  have e6 := e5.trans (hb6.mono e5.size)
  have e7 := e6.trans (hb7.mono e6.size)
  have e8 := e7.trans (hb8.mono e7.size)
  have e9 := e8.trans (hb9.mono e8.size)
  have e10 := e9.trans (hb10.mono e9.size)
  have e11 := e10.trans (hb11.mono e10.size)
  have e12 := e11.trans (hb12.mono e11.size)
  have e13 := e12.trans (hb13.mono e12.size)
  exact ⟨rfl, e13⟩

set_option maxRecDepth 100000 in
set_option maxHeartbeats 8000000 in
theorem realMirrors_zero (a b A B X Y S T S' P P' Q Q' V c : Int) (b1 : (A == 9221120237041090561) = false) (b2 : (B == 9221120237041090561) = false) (z0 : (T != S') = true) (z1 : bits .andNot .u64 S 9223372036854775808 = 0) (z2 : bits .andNot .u64 T 9223372036854775808 = 0)
    (d1 : ∀ w, Calls Try.prog 19 #[.int .u64 a] w fun e w' => e = .returned (.int .u64 A) ∧ w = w')
    (d2 : ∀ w, Calls Try.prog 19 #[.int .u64 b] w fun e w' => e = .returned (.int .u64 B) ∧ w = w')
    (t1 : ∀ w, Calls Try.prog 36 #[.int .u64 A] w fun e w' => e = .returned (.int .u64 X) ∧ w = w')
    (t2 : ∀ w, Calls Try.prog 36 #[.int .u64 B] w fun e w' => e = .returned (.int .u64 Y) ∧ w = w')
    (t3 : ∀ w, Calls Try.prog 36 #[.int .u64 S] w fun e w' => e = .returned (.int .u64 S') ∧ w = w')
    (t4 : ∀ w, Calls Try.prog 36 #[.int .u64 P] w fun e w' => e = .returned (.int .u64 P') ∧ w = w')
    (t5 : ∀ w, Calls Try.prog 36 #[.int .u64 Q] w fun e w' => e = .returned (.int .u64 Q') ∧ w = w')
    (a1 : ∀ w, Calls Try.prog 10 #[.int .u64 A, .int .u64 B] w fun e w' => e = .returned (.int .u64 S) ∧ Below w.heap.size w w')
    (a2 : ∀ w, Calls Try.prog 10 #[.int .u64 X, .int .u64 Y] w fun e w' => e = .returned (.int .u64 T) ∧ Below w.heap.size w w')
    (m1 : ∀ w, Calls Try.prog 14 #[.int .u64 X, .int .u64 B] w fun e w' => e = .returned (.int .u64 P') ∧ Below w.heap.size w w')
    (m2 : ∀ w, Calls Try.prog 14 #[.int .u64 A, .int .u64 B] w fun e w' => e = .returned (.int .u64 P) ∧ Below w.heap.size w w')
    (m3 : ∀ w, Calls Try.prog 14 #[.int .u64 X, .int .u64 Y] w fun e w' => e = .returned (.int .u64 P) ∧ Below w.heap.size w w')
    (q1 : ∀ w, Calls Try.prog 16 #[.int .u64 X, .int .u64 B] w fun e w' => e = .returned (.int .u64 Q') ∧ Below w.heap.size w w')
    (q2 : ∀ w, Calls Try.prog 16 #[.int .u64 A, .int .u64 B] w fun e w' => e = .returned (.int .u64 Q) ∧ Below w.heap.size w w')
    (q3 : ∀ w, Calls Try.prog 16 #[.int .u64 A, .int .u64 Y] w fun e w' => e = .returned (.int .u64 Q') ∧ Below w.heap.size w w')
    (s1 : ∀ w, Calls Try.prog 12 #[.int .u64 A, .int .u64 B] w fun e w' => e = .returned (.int .u64 V) ∧ Below w.heap.size w w')
    (a3 : ∀ w, Calls Try.prog 10 #[.int .u64 A, .int .u64 Y] w fun e w' => e = .returned (.int .u64 V) ∧ Below w.heap.size w w')
    (c1 : ∀ w, Calls Try.prog 18 #[.int .u64 X, .int .u64 Y] w fun e w' => e = .returned (.int .i64 c) ∧ w = w')
    (c2 : ∀ w, Calls Try.prog 18 #[.int .u64 B, .int .u64 A] w fun e w' => e = .returned (.int .i64 c) ∧ w = w')
    (w : World) : Calls Try.prog 9 #[.int .u64 a, .int .u64 b] w fun e w' => e = .returned (.bool true) ∧ Below w.heap.size w w' := by
  go_enter Try.func9, Try.ntmps9
  go_wp2_with fail
  refine (d1 _).mono ?_
  rintro e w' ⟨rfl, rfl⟩
  go_wp2_with fail
  refine (d2 _).mono ?_
  rintro e w' ⟨rfl, rfl⟩
  go_wp2_with fail
  refine (t1 _).mono ?_
  rintro e w' ⟨rfl, rfl⟩
  go_wp2_with fail
  refine (t2 _).mono ?_
  rintro e w' ⟨rfl, rfl⟩
  go_wp2_with fail
  refine (a1 _).mono ?_
  rintro e w1 ⟨rfl, hb1⟩
  go_wp2_with fail
  refine (a2 _).mono ?_
  rintro e w2 ⟨rfl, hb2⟩
  go_wp2_with fail
  refine (t3 _).mono ?_
  rintro e w' ⟨rfl, rfl⟩
  go_wp2_with fail
  refine (m1 _).mono ?_
  rintro e w3 ⟨rfl, hb3⟩
  go_wp2_with fail
  refine (m2 _).mono ?_
  rintro e w4 ⟨rfl, hb4⟩
  go_wp2_with fail
  refine (t4 _).mono ?_
  rintro e w' ⟨rfl, rfl⟩
  go_wp2_with fail
  refine (m3 _).mono ?_
  rintro e w5 ⟨rfl, hb5⟩
  go_wp2_with fail
  refine (m2 _).mono ?_
  rintro e w6 ⟨rfl, hb6⟩
  go_wp2_with fail
  refine (q1 _).mono ?_
  rintro e w7 ⟨rfl, hb7⟩
  go_wp2_with fail
  refine (q2 _).mono ?_
  rintro e w8 ⟨rfl, hb8⟩
  go_wp2_with fail
  refine (t5 _).mono ?_
  rintro e w' ⟨rfl, rfl⟩
  go_wp2_with fail
  refine (q3 _).mono ?_
  rintro e w9 ⟨rfl, hb9⟩
  go_wp2_with fail
  refine (q2 _).mono ?_
  rintro e w10 ⟨rfl, hb10⟩
  go_wp2_with fail
  refine (t5 _).mono ?_
  rintro e w' ⟨rfl, rfl⟩
  go_wp2_with fail
  refine (s1 _).mono ?_
  rintro e w11 ⟨rfl, hb11⟩
  go_wp2_with fail
  refine (a3 _).mono ?_
  rintro e w12 ⟨rfl, hb12⟩
  go_wp2_with fail
  refine (c1 _).mono ?_
  rintro e w' ⟨rfl, rfl⟩
  go_wp2_with fail
  refine (c2 _).mono ?_
  rintro e w' ⟨rfl, rfl⟩
  go_wp2_with fail
  refine (awake_flt _).mono ?_
  rintro e w13 ⟨rfl, hb13⟩
  go_wp2
  go_ret
  have e1 := hb1
  have e2 := e1.trans (hb2.mono e1.size)
  have e3 := e2.trans (hb3.mono e2.size)
  have e4 := e3.trans (hb4.mono e3.size)
  have e5 := e4.trans (hb5.mono e4.size)
  have e6 := e5.trans (hb6.mono e5.size)
  have e7 := e6.trans (hb7.mono e6.size)
  have e8 := e7.trans (hb8.mono e7.size)
  have e9 := e8.trans (hb9.mono e8.size)
  have e10 := e9.trans (hb10.mono e9.size)
  have e11 := e10.trans (hb11.mono e10.size)
  have e12 := e11.trans (hb12.mono e11.size)
  have e13 := e12.trans (hb13.mono e12.size)
  exact ⟨rfl, e13⟩

theorem realMirrors_walk (a b : Int) (h1 : U64 a) (h2 : U64 b) (w : World) :
    Calls Try.prog 9 #[.int .u64 a, .int .u64 b] w fun e w' => e = .returned (.bool true) ∧ Below w.heap.size w w' := by
  have ha := cl_clean h1
  have hb := cl_clean h2
  have d1 := fun w => clean_any w a h1
  have d2 := fun w => clean_any w b h2
  clear h1 h2
  generalize cleanI a = A at *
  generalize cleanI b = B at *
  have nanT : (A = 9221120237041090561 ∨ B = 9221120237041090561) → opI .add (turnI A) (turnI B) = turnI (opI .add A B) := by
    intro h
    have hn := mi_nan ha hb h
    rw [op_nan (op := .add) (a := A) (b := B) (by rw [Fl.fb_add]; exact Fl.nan_add hn), op_nan (by rw [Fl.fb_add]; exact Fl.nan_add (by rw [turnI_toNat ha, turnI_toNat hb]; exact hn)), turnI_nan]
  by_cases c1 : A = 9221120237041090561
  · exact realMirrors_nan1 a b A B _ _ _ _ _ _ _ _ _ _ (beq_iff_eq.2 c1) (nanT (Or.inl c1)) d1 d2 (fun w => turned_any w _ ha.u) (fun w => turned_any w _ hb.u) (fun w => turned_any w _ (opI_u64 _ _ _)) (fun w => turned_any w _ (opI_u64 _ _ _)) (fun w => turned_any w _ (opI_u64 _ _ _)) (fun w => fAdd_any w _ _) (fun w => fAdd_any w _ _) (fun w => by have := fMul_any w (turnI A) B; rwa [mi_mul1 ha hb] at this) (fun w => fMul_any w _ _) (fun w => by have := fMul_any w (turnI A) (turnI B); rwa [mi_mul3 ha hb] at this) (fun w => by have := fDiv_any w (turnI A) B; rwa [mi_div1 ha hb] at this) (fun w => fDiv_any w _ _) (fun w => by have := fDiv_any w A (turnI B); rwa [mi_div2 ha hb] at this) (fun w => fSub_any w _ _) (fun w => by have := fAdd_any w A (turnI B); rwa [mi_sub ha hb] at this) w
  · by_cases c2 : B = 9221120237041090561
    · exact realMirrors_nan2 a b A B _ _ _ _ _ _ _ _ _ _ (beq_eq_false_iff_ne.2 c1) (beq_iff_eq.2 c2) (nanT (Or.inr c2)) d1 d2 (fun w => turned_any w _ ha.u) (fun w => turned_any w _ hb.u) (fun w => turned_any w _ (opI_u64 _ _ _)) (fun w => turned_any w _ (opI_u64 _ _ _)) (fun w => turned_any w _ (opI_u64 _ _ _)) (fun w => fAdd_any w _ _) (fun w => fAdd_any w _ _) (fun w => by have := fMul_any w (turnI A) B; rwa [mi_mul1 ha hb] at this) (fun w => fMul_any w _ _) (fun w => by have := fMul_any w (turnI A) (turnI B); rwa [mi_mul3 ha hb] at this) (fun w => by have := fDiv_any w (turnI A) B; rwa [mi_div1 ha hb] at this) (fun w => fDiv_any w _ _) (fun w => by have := fDiv_any w A (turnI B); rwa [mi_div2 ha hb] at this) (fun w => fSub_any w _ _) (fun w => by have := fAdd_any w A (turnI B); rwa [mi_sub ha hb] at this) w
    · by_cases c3 : opI .add (turnI A) (turnI B) = turnI (opI .add A B)
      · exact realMirrors_num a b A B _ _ _ _ _ _ _ _ _ _ _ (beq_eq_false_iff_ne.2 c1) (beq_eq_false_iff_ne.2 c2) c3 d1 d2 (fun w => turned_any w _ ha.u) (fun w => turned_any w _ hb.u) (fun w => turned_any w _ (opI_u64 _ _ _)) (fun w => turned_any w _ (opI_u64 _ _ _)) (fun w => turned_any w _ (opI_u64 _ _ _)) (fun w => fAdd_any w _ _) (fun w => fAdd_any w _ _) (fun w => by have := fMul_any w (turnI A) B; rwa [mi_mul1 ha hb] at this) (fun w => fMul_any w _ _) (fun w => by have := fMul_any w (turnI A) (turnI B); rwa [mi_mul3 ha hb] at this) (fun w => by have := fDiv_any w (turnI A) B; rwa [mi_div1 ha hb] at this) (fun w => fDiv_any w _ _) (fun w => by have := fDiv_any w A (turnI B); rwa [mi_div2 ha hb] at this) (fun w => fSub_any w _ _) (fun w => by have := fAdd_any w A (turnI B); rwa [mi_sub ha hb] at this) (fun w => by have := fCmp_any w (turnI A) (turnI B) (turnI_u64 ha.u) (turnI_u64 hb.u); rwa [mi_cmp ha hb c1 c2] at this) (fun w => fCmp_any w B A hb.u ha.u) w
      · rcases mi_add ha hb with h | ⟨z1, z2⟩
        · exact absurd h c3
        · exact realMirrors_zero a b A B _ _ _ _ _ _ _ _ _ _ _ (beq_eq_false_iff_ne.2 c1) (beq_eq_false_iff_ne.2 c2) (by rw [bne_iff_ne]; exact c3) (by rw [bits_andNot (opI_u64 _ _ _), z1]; rfl) (by rw [bits_andNot (opI_u64 _ _ _), z2]; rfl) d1 d2 (fun w => turned_any w _ ha.u) (fun w => turned_any w _ hb.u) (fun w => turned_any w _ (opI_u64 _ _ _)) (fun w => turned_any w _ (opI_u64 _ _ _)) (fun w => turned_any w _ (opI_u64 _ _ _)) (fun w => fAdd_any w _ _) (fun w => fAdd_any w _ _) (fun w => by have := fMul_any w (turnI A) B; rwa [mi_mul1 ha hb] at this) (fun w => fMul_any w _ _) (fun w => by have := fMul_any w (turnI A) (turnI B); rwa [mi_mul3 ha hb] at this) (fun w => by have := fDiv_any w (turnI A) B; rwa [mi_div1 ha hb] at this) (fun w => fDiv_any w _ _) (fun w => by have := fDiv_any w A (turnI B); rwa [mi_div2 ha hb] at this) (fun w => fSub_any w _ _) (fun w => by have := fAdd_any w A (turnI B); rwa [mi_sub ha hb] at this) (fun w => by have := fCmp_any w (turnI A) (turnI B) (turnI_u64 ha.u) (turnI_u64 hb.u); rwa [mi_cmp ha hb c1 c2] at this) (fun w => fCmp_any w B A hb.u ha.u) w
end Go.Proofs.Ytgencmjdejgkoaa
