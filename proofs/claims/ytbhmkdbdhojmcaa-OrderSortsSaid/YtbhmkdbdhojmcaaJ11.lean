/-
  WHAT EVERY PROGRAM ANSWERS THAT IS ONE: awake of beehivelaw5.
  LISTS OF NUMBERS: how they stand; pair; integers that came in.
  Same of light terms that may be; pairs; what OrderTotal leans on.
  A NUMBER BELOW A BOUND: beehivelaw0.Low.
  beehivelaw5.of: a term of each class.
-/
import Derived.Test.YtbhmkdbdhojmcaaJ10
import Derived.Test.YtbhmkdbdhojmcaaJ8
import Derived.Test.YtbhmkdbdhojmcaaJ1
import Derived.Laws.BytesArg
import Derived.Deep.OwnRows
namespace Go.Proofs.Ytbhmkdbdhojmcaa
open Go.RowKit
open Od

def t2I : Tm := .mk 1 2 false [] 0 ⟨#[]⟩ []
def tFl : Tm := .mk 3 0 false [] 4607182418800017408 ⟨#[]⟩ []
def tTup : Tm := .mk 6 0 false [] 0 ⟨#[]⟩ []
set_option maxRecDepth 100000 in
theorem intT_two : intT 2 = t2I := intT_small (by have := Lm.top_ge; omega) (by decide)
set_option maxRecDepth 100000 in
theorem t2I_ok : t2I.Ok := by simp [t2I, Tm.Ok, Tm.Oks, ByteArray.size]
set_option maxRecDepth 100000 in
theorem tFl_ok : tFl.Ok := by simp [tFl, Tm.Ok, Tm.Oks, ByteArray.size]
set_option maxRecDepth 100000 in
theorem tTup_ok : tTup.Ok := by simp [tTup, Tm.Ok, Tm.Oks, ByteArray.size]
set_option maxRecDepth 100000 in
theorem may_small {t : Tm} (h : t.wt ≤ 300) (hf : t.formB = true) : t.mayB = true := by
  rw [Tm.mayB, hf, decide_eq_true (show t.cap ≤ 300 by unfold Tm.cap; omega)]; rfl
set_option maxRecDepth 100000 in
theorem tOne_may : tOne.mayB = true := may_small (by simp [tOne, Tm.wt]) (by simp [tOne, Tm.formB, Tm.formsB, Tm.alikeB, Tm.ment, Tm.boundB, Tm.kind, Tm.num, Tm.args, Tm.mag, Tm.neg, Tm.bits, Tm.bytes])
set_option maxRecDepth 100000 in
theorem t2I_may : t2I.mayB = true := may_small (by simp [t2I, Tm.wt]) (by simp [t2I, Tm.formB, Tm.formsB, Tm.alikeB, Tm.ment, Tm.boundB, Tm.kind, Tm.num, Tm.args, Tm.mag, Tm.neg, Tm.bits, Tm.bytes])
set_option maxRecDepth 100000 in
theorem tTup_may : tTup.mayB = true := may_small (by simp [tTup, Tm.wt, Tm.wts]) (by simp [tTup, Tm.formB, Tm.formsB, Tm.alikeB, Tm.ment, Tm.boundB, Tm.kind, Tm.num, Tm.args, Tm.mag, Tm.neg, Tm.bits, Tm.bytes])
set_option maxRecDepth 100000 in
theorem tNil_may : tNil.mayB = true := may_small (by simp [tNil, Tm.wt]) (by simp [tNil, Tm.formB, Tm.formsB, Tm.alikeB, Tm.ment, Tm.boundB, Tm.kind, Tm.num, Tm.args, Tm.mag, Tm.neg, Tm.bits, Tm.bytes])
set_option maxRecDepth 100000 in
theorem clean_one : cleanI 4607182418800017408 = 4607182418800017408 := by decide
set_option maxRecDepth 100000 in
theorem tFl_may : tFl.mayB = true := may_small (by simp [tFl, Tm.wt]) (by simp [tFl, Tm.formB, Tm.formsB, Tm.alikeB, Tm.ment, Tm.boundB, Tm.kind, Tm.num, Tm.args, Tm.mag, Tm.neg, Tm.bits, Tm.bytes, clean_one])
set_option maxRecDepth 100000 in
theorem flr_one : Fl.flr 4607182418800017408 = 1 := by
  have hr : Fl.rg 4607182418800017408 = 4607182418800017408 := by decide
  have hn : Fl.ng 4607182418800017408 = false := by decide
  have hm : Fl.mt 4607182418800017408 = 2 ^ 52 := by decide
  have hp : Fl.pl 4607182418800017408 = Fl.K - 52 := by rw [Fl.K_eq]; decide
  have hv : Fl.val 4607182418800017408 = Fl.U := by
    unfold Fl.val
    rw [hm, hp, ← Nat.pow_add, Fl.U_def, show 52 + (Fl.K - 52) = Fl.K by have := Fl.K_eq; omega]
  have hU := Fl.U_pos
  unfold Fl.flr Fl.sv
  rw [hr, hn, hv]
  unfold Fl.sgnd
  simp only [Bool.false_eq_true, if_false]
  exact Int.ediv_self (by omega)
set_option maxRecDepth 100000 in
theorem cmpNumZ_one (z : Int) : cmpNumZ z (4607182418800017408 : Int).toNat = if 1 < z then 1 else -1 := by
  have h2 : Fl.nanB (4607182418800017408 : Int).toNat = false := by decide
  unfold cmpNumZ
  rw [h2, show (4607182418800017408 : Int).toNat = 4607182418800017408 from rfl, flr_one]
  rfl
set_option maxRecDepth 100000 in
theorem ordB_may {t t' : Tm} (h : t.mayB = true) (h' : t'.mayB = true) : Tm.ordB t t' = Tm.cmpT t t' := by unfold Tm.ordB; rw [h, h']; rfl
set_option maxRecDepth 100000 in
theorem aw_of1 : Tm.ordB tOne tFl = -1 := by
  rw [ordB_may tOne_may tFl_may, cmpT_leaf (a := tOne) (b := tFl) rfl rfl rfl, leafKey_int (.inl rfl), leafKey_flt rfl, zkey_f]
  exact cmpNumZ_one 1
set_option maxRecDepth 100000 in
theorem aw_2f : Tm.ordB t2I tFl = 1 := by
  rw [ordB_may t2I_may tFl_may, cmpT_leaf (a := t2I) (b := tFl) rfl rfl rfl, leafKey_int (.inl rfl), leafKey_flt rfl, zkey_f]
  exact cmpNumZ_one 2
set_option maxRecDepth 100000 in
theorem aw_tn : Tm.ordB tTup tNil = -1 := by
  rw [ordB_may tTup_may tNil_may, cmpT_cls (by decide)]; rfl
set_option maxRecDepth 100000 in
theorem aw_12 : decide (Tm.ordB tOne t2I < 0) = true := by
  rw [ordB_may tOne_may t2I_may, cmpT_leaf (a := tOne) (b := t2I) rfl rfl rfl, leafKey_int (t := tOne) (.inl rfl), leafKey_int (t := t2I) (.inl rfl), zkey_z]; rfl
set_option maxRecDepth 100000 in
theorem aw_22 : decide (Tm.ordB t2I t2I < 0) = false := by
  rw [ordB_may t2I_may t2I_may, Tm.cmpT_self]; rfl
set_option maxRecDepth 100000 in
theorem aw_ff : Tm.ordB tFl tFl = 0 := by rw [ordB_may tFl_may tFl_may, Tm.cmpT_self]
set_option maxRecDepth 100000 in
theorem tNil_tv (w : World) : TV w (mkR 7 0 0 ⟨#[]⟩ none 0 0) tNil := TV.leaf (by omega) (by omega) (by omega) (by omega) (by omega) (by omega) (by decide)
set_option maxRecDepth 100000 in
theorem tTup_tv (w : World) : TV w (mkR 6 0 0 ⟨#[]⟩ none 0 0) tTup := TV.leaf (by omega) (by omega) (by omega) (by omega) (by omega) (by omega) (by decide)
set_option maxRecDepth 100000 in
theorem tFl_tv (w : World) : TV w (mkR 3 0 4607182418800017408 ⟨#[]⟩ none 0 0) tFl := TV.leaf (by omega) (by omega) (by omega) (by omega) (by omega) (by omega) (by decide)

set_option maxRecDepth 100000 in
set_option maxHeartbeats 4000000 in
theorem awake5 (w : World) : Calls Try.prog 10 #[] w fun e w' => e = .returned (.bool true) ∧ Below w.heap.size w w' := by
  go_enter Try.func10, Try.ntmps10
  go_upto_region 2 with fail
  have E0 : BxI w (mkR 3 0 4607182418800017408 ⟨#[]⟩ none 0 0) tFl (w.alloc (.cells #[.int .i64 3, .int .i64 0, .bool false, .slice none 0 0, .int .u64 4607182418800017408, .string ⟨#[]⟩, .slice none 0 0] 28)) := BxI.new (tFl_tv w)
  generalize w.alloc (.cells #[.int .i64 3, .int .i64 0, .bool false, .slice none 0 0, .int .u64 4607182418800017408, .string ⟨#[]⟩, .slice none 0 0] 28) = W at *
  have E := E0.drew
  obtain ⟨y0, y1, y2, y3, y4, y5, y6⟩ : W.cell? ⟨w.heap.size, 0, none⟩ = some (.int .i64 3) ∧ W.cell? ⟨w.heap.size, 1, none⟩ = some (.int .i64 0) ∧ W.cell? ⟨w.heap.size, 2, none⟩ = some (.bool false) ∧ W.cell? ⟨w.heap.size, 3, none⟩ = some (.slice none 0 0) ∧ W.cell? ⟨w.heap.size, 4, none⟩ = some (.int .u64 4607182418800017408) ∧ W.cell? ⟨w.heap.size, 5, none⟩ = some (.string ⟨#[]⟩) ∧ W.cell? ⟨w.heap.size, 6, none⟩ = some (.slice none 0 0) := ⟨E0.bx.at.c0, E0.bx.at.c1, E0.bx.at.c2, E0.bx.at.c3, E0.bx.at.c4, E0.bx.at.c5, E0.bx.at.c6⟩
  clear E0
  have k1 : True := trivial
  have k2 : True := trivial
  have k3 : True := trivial
  have k4 : True := trivial
  have k5 : True := trivial
  have k6 : True := trivial
  have c1 : True := trivial
  have c2 : True := trivial
  have c3 : True := trivial
  have c4 : True := trivial
  have c5 : True := trivial
  have c6 : True := trivial
  go_region_held3 (fun w' => w'.cell? ⟨w.heap.size, 0, none⟩ = some (.int .i64 3) ∧ w'.cell? ⟨w.heap.size, 1, none⟩ = some (.int .i64 0) ∧ w'.cell? ⟨w.heap.size, 2, none⟩ = some (.bool false) ∧ w'.cell? ⟨w.heap.size, 3, none⟩ = some (.slice none 0 0) ∧ w'.cell? ⟨w.heap.size, 4, none⟩ = some (.int .u64 4607182418800017408) ∧ w'.cell? ⟨w.heap.size, 5, none⟩ = some (.string ⟨#[]⟩) ∧ w'.cell? ⟨w.heap.size, 6, none⟩ = some (.slice none 0 0))
    (first | exact ⟨y0, y1, y2, y3, y4, y5, y6⟩ | exact ⟨E.bx.at.c0, E.bx.at.c1, E.bx.at.c2, E.bx.at.c3, E.bx.at.c4, E.bx.at.c5, E.bx.at.c6⟩)
    (first
      | (go_at_call 26; clear k1; have E' := E; clear E; refine (int_any _ 1 (by omega) (by omega)).mono ?_; rw [intT_one]; rintro e v ⟨R1, rfl, T10, hv⟩; have E := E'.below hv; clear E'; (try replace T1 := T1.bel hv); (try replace T2 := T2.bel hv); (try replace T3 := T3.bel hv); (try replace T4 := T4.bel hv); (try replace T5 := T5.bel hv); (try replace T6 := T6.bel hv); clear hv; have T1 := T10; clear T10)
      | (go_at_call 26; clear k2; have E' := E; clear E; refine (int_any _ 1 (by omega) (by omega)).mono ?_; rw [intT_one]; rintro e v ⟨R2, rfl, T20, hv⟩; have E := E'.below hv; clear E'; (try replace T1 := T1.bel hv); (try replace T2 := T2.bel hv); (try replace T3 := T3.bel hv); (try replace T4 := T4.bel hv); (try replace T5 := T5.bel hv); (try replace T6 := T6.bel hv); clear hv; have T2 := T20; clear T20)
      | (go_at_call 26; clear k3; have E' := E; clear E; refine (int_any _ 2 (by omega) (by omega)).mono ?_; rw [intT_two]; rintro e v ⟨R3, rfl, T30, hv⟩; have E := E'.below hv; clear E'; (try replace T1 := T1.bel hv); (try replace T2 := T2.bel hv); (try replace T3 := T3.bel hv); (try replace T4 := T4.bel hv); (try replace T5 := T5.bel hv); (try replace T6 := T6.bel hv); clear hv; have T3 := T30; clear T30)
      | (go_at_call 26; clear k4; have E' := E; clear E; refine (int_any _ 2 (by omega) (by omega)).mono ?_; rw [intT_two]; rintro e v ⟨R4, rfl, T40, hv⟩; have E := E'.below hv; clear E'; (try replace T1 := T1.bel hv); (try replace T2 := T2.bel hv); (try replace T3 := T3.bel hv); (try replace T4 := T4.bel hv); (try replace T5 := T5.bel hv); (try replace T6 := T6.bel hv); clear hv; have T4 := T40; clear T40)
      | (go_at_call 26; clear k5; have E' := E; clear E; refine (int_any _ 2 (by omega) (by omega)).mono ?_; rw [intT_two]; rintro e v ⟨R5, rfl, T50, hv⟩; have E := E'.below hv; clear E'; (try replace T1 := T1.bel hv); (try replace T2 := T2.bel hv); (try replace T3 := T3.bel hv); (try replace T4 := T4.bel hv); (try replace T5 := T5.bel hv); (try replace T6 := T6.bel hv); clear hv; have T5 := T50; clear T50)
      | (go_at_call 26; clear k6; have E' := E; clear E; refine (int_any _ 2 (by omega) (by omega)).mono ?_; rw [intT_two]; rintro e v ⟨R6, rfl, T60, hv⟩; have E := E'.below hv; clear E'; (try replace T1 := T1.bel hv); (try replace T2 := T2.bel hv); (try replace T3 := T3.bel hv); (try replace T4 := T4.bel hv); (try replace T5 := T5.bel hv); (try replace T6 := T6.bel hv); clear hv; have T6 := T60; clear T60)
      | (go_at_call 12; clear c1; have E' := E; clear E; refine (cmp_term _ R1 tOne (by exact T1) tOne_ok (mkR 3 0 4607182418800017408 ⟨#[]⟩ none 0 0) tFl (by exact E'.tv) tFl_ok).mono ?_; rw [aw_of1]; rintro e v ⟨rfl, hv⟩; have E := E'.below hv; clear E'; (try replace T1 := T1.bel hv); (try replace T2 := T2.bel hv); (try replace T3 := T3.bel hv); (try replace T4 := T4.bel hv); (try replace T5 := T5.bel hv); (try replace T6 := T6.bel hv); clear hv)
      | (go_at_call 12; clear c2; have E' := E; clear E; refine (cmp_term _ (mkR 6 0 0 ⟨#[]⟩ none 0 0) tTup (by exact tTup_tv _) tTup_ok (mkR 7 0 0 ⟨#[]⟩ none 0 0) tNil (by exact tNil_tv _) tNil_ok).mono ?_; rw [aw_tn]; rintro e v ⟨rfl, hv⟩; have E := E'.below hv; clear E'; (try replace T1 := T1.bel hv); (try replace T2 := T2.bel hv); (try replace T3 := T3.bel hv); (try replace T4 := T4.bel hv); (try replace T5 := T5.bel hv); (try replace T6 := T6.bel hv); clear hv)
      | (go_at_call 14; clear c3; have E' := E; clear E; refine (less_term _ R2 tOne (by exact T2) tOne_ok R3 t2I (by exact T3) t2I_ok).mono ?_; rw [aw_12]; rintro e v ⟨rfl, hv⟩; have E := E'.below hv; clear E'; (try replace T1 := T1.bel hv); (try replace T2 := T2.bel hv); (try replace T3 := T3.bel hv); (try replace T4 := T4.bel hv); (try replace T5 := T5.bel hv); (try replace T6 := T6.bel hv); clear hv)
      | (go_at_call 14; clear c4; have E' := E; clear E; refine (less_term _ R4 t2I (by exact T4) t2I_ok R5 t2I (by exact T5) t2I_ok).mono ?_; rw [aw_22]; rintro e v ⟨rfl, hv⟩; have E := E'.below hv; clear E'; (try replace T1 := T1.bel hv); (try replace T2 := T2.bel hv); (try replace T3 := T3.bel hv); (try replace T4 := T4.bel hv); (try replace T5 := T5.bel hv); (try replace T6 := T6.bel hv); clear hv)
      | (go_at_call 12; clear c5; have E' := E; clear E; refine (cmp_term _ (mkR 3 0 4607182418800017408 ⟨#[]⟩ none 0 0) tFl (by exact E'.tv) tFl_ok (mkR 3 0 4607182418800017408 ⟨#[]⟩ none 0 0) tFl (by exact E'.tv) tFl_ok).mono ?_; rw [aw_ff]; rintro e v ⟨rfl, hv⟩; have E := E'.below hv; clear E'; (try replace T1 := T1.bel hv); (try replace T2 := T2.bel hv); (try replace T3 := T3.bel hv); (try replace T4 := T4.bel hv); (try replace T5 := T5.bel hv); (try replace T6 := T6.bel hv); clear hv)
      | (go_at_call 12; clear c6; have E' := E; clear E; refine (cmp_term _ R6 t2I (by exact T6) t2I_ok (mkR 3 0 4607182418800017408 ⟨#[]⟩ none 0 0) tFl (by exact E'.tv) tFl_ok).mono ?_; rw [aw_2f]; rintro e v ⟨rfl, hv⟩; have E := E'.below hv; clear E'; (try replace T1 := T1.bel hv); (try replace T2 := T2.bel hv); (try replace T3 := T3.bel hv); (try replace T4 := T4.bel hv); (try replace T5 := T5.bel hv); (try replace T6 := T6.bel hv); clear hv))
  go_wp2
  go_ret
  exact ⟨rfl, E.be⟩
end Go.Proofs.Ytbhmkdbdhojmcaa

namespace Go.Proofs.Ytbhmkdbdhojmcaa
open Go.RowKit Go.ChangeShapes Go.WideShapes
open Od

set_option maxRecDepth 100000 in
theorem intT_kind {z : Int} (ht : z.natAbs < Lm.top) : (intT z).kind = 1 ∨ (intT z).kind = 2 := by
  cases h : smallB z with
  | true => rw [intT_small ht h]; exact .inl rfl
  | false => rw [intT_big ht h]; exact .inr rfl
set_option maxRecDepth 100000 in
theorem intT_zOf {z : Int} (ht : z.natAbs < Lm.top) : (intT z).zOf = z := by
  cases h : smallB z with
  | true => rw [intT_small ht h]; rfl
  | false =>
    rw [intT_big ht h]
    exact sgn_digits z
set_option maxRecDepth 100000 in
theorem intT_args {z : Int} (ht : z.natAbs < Lm.top) : (intT z).args = [] := by
  cases h : smallB z with
  | true => rw [intT_small ht h]; rfl
  | false => rw [intT_big ht h]; rfl
set_option maxRecDepth 100000 in
theorem intT_ok {z : Int} (ht : z.natAbs < Lm.top) : (intT z).Ok := by
  have := (Lm.top_iff _).2 ht
  exact ofT_ok (by omega)
set_option maxRecDepth 100000 in
theorem top64 {z : Int} (h1 : -9223372036854775808 ≤ z) (h2 : z ≤ 9223372036854775807) : z.natAbs < Lm.top := by have := Lm.top_ge; omega
set_option maxRecDepth 100000 in
theorem intT_may {z : Int} (ht : z.natAbs < Lm.top) : (intT z).mayB = true := ofT_may (may_digits z ht)
set_option maxRecDepth 100000 in
theorem cmpT_int {a b : Int} (ha : a.natAbs < Lm.top) (hb : b.natAbs < Lm.top) : Tm.cmpT (intT a) (intT b) = Od.sg a b := by
  have c : cls (intT a).kind = cls (intT b).kind := by rcases intT_kind ha with e | e <;> rcases intT_kind hb with e' | e' <;> rw [e, e'] <;> rfl
  rw [cmpT_leaf c (intT_args ha) (intT_args hb), leafKey_int (intT_kind ha), leafKey_int (intT_kind hb), zkey_z, intT_zOf ha, intT_zOf hb]
  rfl
/-- Numbers as a list. -/
def numL (zs : List Int) : Tm := listT (zs.map intT)
set_option maxRecDepth 100000 in
theorem numL_cons (z : Int) (zs : List Int) : numL (z :: zs) = .mk 8 0 false [] 0 ⟨#[]⟩ [intT z, numL zs] := rfl
set_option maxRecDepth 100000 in
theorem numL_ok : ∀ {zs : List Int}, (∀ z ∈ zs, z.natAbs < Lm.top) → (numL zs).Ok
  | [], _ => tNil_ok
  | z :: zs, h => by
    rw [numL_cons, Tm.ok_mk]
    refine ⟨by simp, by simp [ByteArray.size], fun t ht => ?_⟩
    simp at ht
    rcases ht with rfl | rfl
    · exact intT_ok (h z (by simp))
    · exact numL_ok fun y hy => h y (by simp [hy])
set_option maxRecDepth 100000 in
theorem cmpT_list : ∀ {xs ys : List Int}, (∀ z ∈ xs, z.natAbs < Lm.top) → (∀ z ∈ ys, z.natAbs < Lm.top) → Tm.cmpT (numL xs) (numL ys) = lex Od.sg xs ys
  | [], [], _, _ => Tm.cmpT_self _
  | [], y :: ys, _, _ => cmpT_cls (a := numL []) (b := numL (y :: ys)) (show cls 7 ≠ cls 8 by decide)
  | x :: xs, [], _, _ => cmpT_cls (a := numL (x :: xs)) (b := numL []) (show cls 8 ≠ cls 7 by decide)
  | x :: xs, y :: ys, hx, hy => by
    rw [numL_cons, numL_cons, cmpT_node (a := .mk 8 0 false [] 0 ⟨#[]⟩ [intT x, numL xs]) (b := .mk 8 0 false [] 0 ⟨#[]⟩ [intT y, numL ys]) rfl (.inr rfl)]
    unfold cmpArgs
    simp only [Tm.args, List.length_cons, List.length_nil, sg_self, lex]
    rw [cmpT_int (hx x (by simp)) (hy y (by simp)), cmpT_list (fun z hz => hx z (by simp [hz])) (fun z hz => hy z (by simp [hz])), andC_zero]
    rfl

/-- Integers in memory. -/
structure Ns (w : World) (A : Option Addr) (n : Nat) (zs : List Int) : Prop where
  len : zs.length = n
  le : n ≤ maxLen
  rng : ∀ z ∈ zs, -9223372036854775808 ≤ z ∧ z ≤ 9223372036854775807
  el : 0 < n → ∃ b o, A = some ⟨b, o, none⟩ ∧ b < w.heap.size ∧ ∀ (j : Nat) (z : Int), zs[j]? = some z → w.cell? ⟨b, o + j, none⟩ = some (.int .i64 z)
set_option maxRecDepth 100000 in
theorem Ns.below {w w' : World} {A : Option Addr} {n : Nat} {zs : List Int} (h : Ns w A n zs) (hb : Below w.heap.size w w') : Ns w' A n zs := by
  refine ⟨h.len, h.le, h.rng, fun hn => ?_⟩
  obtain ⟨b, o, e, hlt, hc⟩ := h.el hn
  exact ⟨b, o, e, Nat.lt_of_lt_of_le hlt hb.size, fun j z ej => (hb.cell (p := ⟨b, o + j, none⟩) hlt).trans (hc j z ej)⟩
set_option maxRecDepth 100000 in
theorem Ns.get {w : World} {A : Option Addr} {n : Nat} {zs : List Int} (h : Ns w A n zs) (j : Nat) (hj : j < n) : ∃ b o z, A = some ⟨b, o, none⟩ ∧ b < w.heap.size ∧ zs[j]? = some z ∧ w.cell? ⟨b, o + j, none⟩ = some (.int .i64 z) ∧ -9223372036854775808 ≤ z ∧ z ≤ 9223372036854775807 := by
  obtain ⟨b, o, e, hlt, hc⟩ := h.el (by omega)
  have hg : zs[j]? = some (zs[j]'(by rw [h.len]; exact hj)) := List.getElem?_eq_getElem (by rw [h.len]; exact hj)
  have hr := h.rng _ (List.mem_of_getElem? hg)
  exact ⟨b, o, _, e, hlt, hg, hc j _ hg, hr.1, hr.2⟩
set_option maxRecDepth 100000 in
theorem open_ns {H : Type} {enc : TypeId × Value → H} {W : World} {v : Value} {d : DataW H} {p : List MemPlace}
    (hv : ∃ a n c, v = .slice a n c) (h : DataW.Trod enc Try.prog W 0 (fun _ => true) true 45 v d p) :
    ∃ (A : Option Addr) (n c : Nat) (zs : List Int), v = .slice A n c ∧ Ns W A n zs := by
  obtain ⟨a, n, c, rfl⟩ := hv
  obtain ⟨fuel, hf⟩ := h
  have hf' : DataW.trod enc Try.prog W 0 (fun _ => true) true fuel 45 [.slice a n c] = some (d, p) := by simpa [Value.cells] using hf
  rcases open_ints Try.underlying45 Try.underlying3 (by kernel_rfl) hf' with ⟨e1, _⟩ | ⟨a', len, cap, zs, e1, _, hl, hm, hz, _, hcell, hwz⟩
  · simp only [List.cons.injEq, and_true] at e1
    cases e1
    exact ⟨none, 0, 0, [], rfl, rfl, Nat.zero_le _, by simp, fun h => absurd h (by omega)⟩
  · simp only [List.cons.injEq, and_true] at e1
    cases e1
    simp only [if_true] at hz
    refine ⟨some a', n, c, zs.take n, rfl, ?_, Nat.le_trans hl hm, fun z hz' => ?_, fun hn => ?_⟩
    · rw [List.length_take]; omega
    · have := hwz z (List.mem_of_mem_take hz')
      simp [Lit.wf, IntKind.min, IntKind.max, IntKind.signed, IntKind.bits] at this
      omega
    · have h0 := hcell 0 (by omega)
      have hspot : a'.spot = none := by
        have := World.cell?_spot h0
        simpa [Addr.add] using this
      obtain ⟨b, o, sp⟩ := a'
      simp only at hspot
      subst hspot
      refine ⟨b, o, rfl, ?_, fun j z e => ?_⟩
      · have := World.block_lt_of_cell? W _ h0
        rw [add_none] at this
        exact this
      · have hj : j < n := by
          have := (List.getElem?_eq_some_iff.1 e).1
          rw [List.length_take] at this
          omega
        rw [List.getElem?_take_of_lt hj] at e
        rw [← add_none, hcell j (by omega), List.getD_eq_getElem?_getD, e]
        rfl

set_option maxRecDepth 100000 in
theorem lim_box7 {w : World} {A : Option Addr} {n c : Nat} {l : List Nat} {g : Nat} {r : TR} (h : Lim w A n c l) (hx : Box7 w g r) (hn : 0 < n) (a : Addr) (e : A = some a) : a.block ≠ g := by
  intro hg
  obtain ⟨b, o, e', hlt, hc⟩ := h.2.2.2 hn
  rw [e] at e'
  cases e'
  simp only at hg
  subst hg
  have h0 := hc 0 hn
  rw [cell_of_row w b _ _ _ (0, 0) hx, Nat.add_zero] at h0
  have ho : o < 7 := by
    have := (Array.getElem?_eq_some_iff.1 h0).1
    simpa using this
  have ho' : o = 0 ∨ o = 1 ∨ o = 2 ∨ o = 3 ∨ o = 4 ∨ o = 5 ∨ o = 6 := by omega
  rcases ho' with rfl | rfl | rfl | rfl | rfl | rfl | rfl <;> simp at h0
set_option maxRecDepth 100000 in
/-- A number's term lies beside two variables. -/
theorem TVS.num {w : World} {R : TR} {t : Tm} {p q : Nat} {r r' : TR} (h : TV w R t) (ha : t.args = []) (hp : Box7 w p r) (hq : Box7 w q r') : TVS (fun b => b ≠ p ∧ b ≠ q) w R t :=
  TVS.leafy h (fun hn a e => ⟨lim_box7 h.flat.lim hp hn a e, lim_box7 h.flat.lim hq hn a e⟩) (by rw [← h.len, ha]; rfl)

set_option maxRecDepth 100000 in
set_option maxHeartbeats 2000000 in
theorem pair_any (w : World) (S : Nat → Prop) (hS : ∀ b, w.heap.size ≤ b → S b) (r r' : TR) (t t' : Tm) (h : TVS S w r t) (h' : TVS S w r' t') :
    Calls Try.prog 25 #[.agg #[.int .i64 r.k, .int .i64 r.n, .bool r.g, .slice r.A r.ln r.lc, .int .u64 r.u, .string r.s, .slice r.B r.m r.d], .agg #[.int .i64 r'.k, .int .i64 r'.n, .bool r'.g, .slice r'.A r'.ln r'.lc, .int .u64 r'.u, .string r'.s, .slice r'.B r'.m r'.d]] w fun e w' => ∃ R : TR, e = .returned (.agg #[.int .i64 R.k, .int .i64 R.n, .bool R.g, .slice R.A R.ln R.lc, .int .u64 R.u, .string R.s, .slice R.B R.m R.d]) ∧ TVS S w' R (.mk 8 0 false [] 0 ⟨#[]⟩ [t, t']) ∧ Below w.heap.size w w' := by
  have I := SmI.new h.tv h'.tv
  have y0 := I.bx.at.c0; have y1 := I.bx.at.c1; have y2 := I.bx.at.c2; have y3 := I.bx.at.c3; have y4 := I.bx.at.c4; have y5 := I.bx.at.c5; have y6 := I.bx.at.c6; have x0 := I.ix.at.c0; have x1 := I.ix.at.c1; have x2 := I.ix.at.c2; have x3 := I.ix.at.c3; have x4 := I.ix.at.c4; have x5 := I.ix.at.c5; have x6 := I.ix.at.c6
  have hb2 := I.be
  clear I
  go_enter Try.func25, Try.ntmps25
  go_wp2
  clear y0 y1 y2 y3 y4 y5 y6 x0 x1 x2 x3 x4 x5 x6
  have k2 := ((Keeps.refl S w).alloc (.cells #[.int .i64 r.k, .int .i64 r.n, .bool r.g, .slice r.A r.ln r.lc, .int .u64 r.u, .string r.s, .slice r.B r.m r.d] 28)).alloc (.cells #[.int .i64 r'.k, .int .i64 r'.n, .bool r'.g, .slice r'.A r'.ln r'.lc, .int .u64 r'.u, .string r'.s, .slice r'.B r'.m r'.d] 28)
  have hs2 : ((w.alloc (.cells #[.int .i64 r.k, .int .i64 r.n, .bool r.g, .slice r.A r.ln r.lc, .int .u64 r.u, .string r.s, .slice r.B r.m r.d] 28)).alloc (.cells #[.int .i64 r'.k, .int .i64 r'.n, .bool r'.g, .slice r'.A r'.ln r'.lc, .int .u64 r'.u, .string r'.s, .slice r'.B r'.m r'.d] 28)).heap.size = w.heap.size + 1 + 1 := by simp
  generalize (w.alloc (.cells #[.int .i64 r.k, .int .i64 r.n, .bool r.g, .slice r.A r.ln r.lc, .int .u64 r.u, .string r.s, .slice r.B r.m r.d] 28)).alloc (.cells #[.int .i64 r'.k, .int .i64 r'.n, .bool r'.g, .slice r'.A r'.ln r'.lc, .int .u64 r'.u, .string r'.s, .slice r'.B r'.m r'.d] 28) = W2 at *
  have k3 := k2.alloc (.cells #[.int .i64 (mkR 8 0 0 ⟨#[]⟩ (some ⟨w.heap.size + 1 + 1 + 1, 0, none⟩) 2 2).k, .int .i64 (mkR 8 0 0 ⟨#[]⟩ (some ⟨w.heap.size + 1 + 1 + 1, 0, none⟩) 2 2).n, .bool (mkR 8 0 0 ⟨#[]⟩ (some ⟨w.heap.size + 1 + 1 + 1, 0, none⟩) 2 2).g, .slice (mkR 8 0 0 ⟨#[]⟩ (some ⟨w.heap.size + 1 + 1 + 1, 0, none⟩) 2 2).A (mkR 8 0 0 ⟨#[]⟩ (some ⟨w.heap.size + 1 + 1 + 1, 0, none⟩) 2 2).ln (mkR 8 0 0 ⟨#[]⟩ (some ⟨w.heap.size + 1 + 1 + 1, 0, none⟩) 2 2).lc, .int .u64 (mkR 8 0 0 ⟨#[]⟩ (some ⟨w.heap.size + 1 + 1 + 1, 0, none⟩) 2 2).u, .string (mkR 8 0 0 ⟨#[]⟩ (some ⟨w.heap.size + 1 + 1 + 1, 0, none⟩) 2 2).s, .slice (mkR 8 0 0 ⟨#[]⟩ (some ⟨w.heap.size + 1 + 1 + 1, 0, none⟩) 2 2).B (mkR 8 0 0 ⟨#[]⟩ (some ⟨w.heap.size + 1 + 1 + 1, 0, none⟩) 2 2).m (mkR 8 0 0 ⟨#[]⟩ (some ⟨w.heap.size + 1 + 1 + 1, 0, none⟩) 2 2).d] 28)
  have b3 := hb2.alloc (by omega) (.cells #[.int .i64 (mkR 8 0 0 ⟨#[]⟩ (some ⟨w.heap.size + 1 + 1 + 1, 0, none⟩) 2 2).k, .int .i64 (mkR 8 0 0 ⟨#[]⟩ (some ⟨w.heap.size + 1 + 1 + 1, 0, none⟩) 2 2).n, .bool (mkR 8 0 0 ⟨#[]⟩ (some ⟨w.heap.size + 1 + 1 + 1, 0, none⟩) 2 2).g, .slice (mkR 8 0 0 ⟨#[]⟩ (some ⟨w.heap.size + 1 + 1 + 1, 0, none⟩) 2 2).A (mkR 8 0 0 ⟨#[]⟩ (some ⟨w.heap.size + 1 + 1 + 1, 0, none⟩) 2 2).ln (mkR 8 0 0 ⟨#[]⟩ (some ⟨w.heap.size + 1 + 1 + 1, 0, none⟩) 2 2).lc, .int .u64 (mkR 8 0 0 ⟨#[]⟩ (some ⟨w.heap.size + 1 + 1 + 1, 0, none⟩) 2 2).u, .string (mkR 8 0 0 ⟨#[]⟩ (some ⟨w.heap.size + 1 + 1 + 1, 0, none⟩) 2 2).s, .slice (mkR 8 0 0 ⟨#[]⟩ (some ⟨w.heap.size + 1 + 1 + 1, 0, none⟩) 2 2).B (mkR 8 0 0 ⟨#[]⟩ (some ⟨w.heap.size + 1 + 1 + 1, 0, none⟩) 2 2).m (mkR 8 0 0 ⟨#[]⟩ (some ⟨w.heap.size + 1 + 1 + 1, 0, none⟩) 2 2).d] 28)
  have B3 := Box7.new W2 (mkR 8 0 0 ⟨#[]⟩ (some ⟨w.heap.size + 1 + 1 + 1, 0, none⟩) 2 2)
  rw [hs2] at B3
  have hs3 : (W2.alloc (.cells #[.int .i64 (mkR 8 0 0 ⟨#[]⟩ (some ⟨w.heap.size + 1 + 1 + 1, 0, none⟩) 2 2).k, .int .i64 (mkR 8 0 0 ⟨#[]⟩ (some ⟨w.heap.size + 1 + 1 + 1, 0, none⟩) 2 2).n, .bool (mkR 8 0 0 ⟨#[]⟩ (some ⟨w.heap.size + 1 + 1 + 1, 0, none⟩) 2 2).g, .slice (mkR 8 0 0 ⟨#[]⟩ (some ⟨w.heap.size + 1 + 1 + 1, 0, none⟩) 2 2).A (mkR 8 0 0 ⟨#[]⟩ (some ⟨w.heap.size + 1 + 1 + 1, 0, none⟩) 2 2).ln (mkR 8 0 0 ⟨#[]⟩ (some ⟨w.heap.size + 1 + 1 + 1, 0, none⟩) 2 2).lc, .int .u64 (mkR 8 0 0 ⟨#[]⟩ (some ⟨w.heap.size + 1 + 1 + 1, 0, none⟩) 2 2).u, .string (mkR 8 0 0 ⟨#[]⟩ (some ⟨w.heap.size + 1 + 1 + 1, 0, none⟩) 2 2).s, .slice (mkR 8 0 0 ⟨#[]⟩ (some ⟨w.heap.size + 1 + 1 + 1, 0, none⟩) 2 2).B (mkR 8 0 0 ⟨#[]⟩ (some ⟨w.heap.size + 1 + 1 + 1, 0, none⟩) 2 2).m (mkR 8 0 0 ⟨#[]⟩ (some ⟨w.heap.size + 1 + 1 + 1, 0, none⟩) 2 2).d] 28)).heap.size = w.heap.size + 1 + 1 + 1 := by simp [hs2]
  change bodyPost _ _ _ _ _ ((W2.alloc (.cells #[.int .i64 (mkR 8 0 0 ⟨#[]⟩ (some ⟨w.heap.size + 1 + 1 + 1, 0, none⟩) 2 2).k, .int .i64 (mkR 8 0 0 ⟨#[]⟩ (some ⟨w.heap.size + 1 + 1 + 1, 0, none⟩) 2 2).n, .bool (mkR 8 0 0 ⟨#[]⟩ (some ⟨w.heap.size + 1 + 1 + 1, 0, none⟩) 2 2).g, .slice (mkR 8 0 0 ⟨#[]⟩ (some ⟨w.heap.size + 1 + 1 + 1, 0, none⟩) 2 2).A (mkR 8 0 0 ⟨#[]⟩ (some ⟨w.heap.size + 1 + 1 + 1, 0, none⟩) 2 2).ln (mkR 8 0 0 ⟨#[]⟩ (some ⟨w.heap.size + 1 + 1 + 1, 0, none⟩) 2 2).lc, .int .u64 (mkR 8 0 0 ⟨#[]⟩ (some ⟨w.heap.size + 1 + 1 + 1, 0, none⟩) 2 2).u, .string (mkR 8 0 0 ⟨#[]⟩ (some ⟨w.heap.size + 1 + 1 + 1, 0, none⟩) 2 2).s, .slice (mkR 8 0 0 ⟨#[]⟩ (some ⟨w.heap.size + 1 + 1 + 1, 0, none⟩) 2 2).B (mkR 8 0 0 ⟨#[]⟩ (some ⟨w.heap.size + 1 + 1 + 1, 0, none⟩) 2 2).m (mkR 8 0 0 ⟨#[]⟩ (some ⟨w.heap.size + 1 + 1 + 1, 0, none⟩) 2 2).d] 28)).alloc _)
  generalize W2.alloc (.cells #[.int .i64 (mkR 8 0 0 ⟨#[]⟩ (some ⟨w.heap.size + 1 + 1 + 1, 0, none⟩) 2 2).k, .int .i64 (mkR 8 0 0 ⟨#[]⟩ (some ⟨w.heap.size + 1 + 1 + 1, 0, none⟩) 2 2).n, .bool (mkR 8 0 0 ⟨#[]⟩ (some ⟨w.heap.size + 1 + 1 + 1, 0, none⟩) 2 2).g, .slice (mkR 8 0 0 ⟨#[]⟩ (some ⟨w.heap.size + 1 + 1 + 1, 0, none⟩) 2 2).A (mkR 8 0 0 ⟨#[]⟩ (some ⟨w.heap.size + 1 + 1 + 1, 0, none⟩) 2 2).ln (mkR 8 0 0 ⟨#[]⟩ (some ⟨w.heap.size + 1 + 1 + 1, 0, none⟩) 2 2).lc, .int .u64 (mkR 8 0 0 ⟨#[]⟩ (some ⟨w.heap.size + 1 + 1 + 1, 0, none⟩) 2 2).u, .string (mkR 8 0 0 ⟨#[]⟩ (some ⟨w.heap.size + 1 + 1 + 1, 0, none⟩) 2 2).s, .slice (mkR 8 0 0 ⟨#[]⟩ (some ⟨w.heap.size + 1 + 1 + 1, 0, none⟩) 2 2).B (mkR 8 0 0 ⟨#[]⟩ (some ⟨w.heap.size + 1 + 1 + 1, 0, none⟩) 2 2).m (mkR 8 0 0 ⟨#[]⟩ (some ⟨w.heap.size + 1 + 1 + 1, 0, none⟩) 2 2).d] 28) = W3 at *
  have T := TVSs.two (h.keep k3) (h'.keep k3) (hS _ (by omega))
  rw [hs3] at T
  have N := TVS.node (k := 8) (n := 0) (u := 0) (s := ⟨#[]⟩) T (by omega) (by omega) (by omega) (by omega) (by omega) (by omega) (by decide)
  have b4 := b3.alloc (by omega) (.cells #[.int .i64 r.k, .int .i64 r.n, .bool r.g, .slice r.A r.ln r.lc, .int .u64 r.u, .string r.s, .slice r.B r.m r.d, .int .i64 r'.k, .int .i64 r'.n, .bool r'.g, .slice r'.A r'.ln r'.lc, .int .u64 r'.u, .string r'.s, .slice r'.B r'.m r'.d] 28)
  have B4 := (B3.below ((Below.refl _ _).alloc (Nat.le_refl _) (.cells #[.int .i64 r.k, .int .i64 r.n, .bool r.g, .slice r.A r.ln r.lc, .int .u64 r.u, .string r.s, .slice r.B r.m r.d, .int .i64 r'.k, .int .i64 r'.n, .bool r'.g, .slice r'.A r'.ln r'.lc, .int .u64 r'.u, .string r'.s, .slice r'.B r'.m r'.d] 28))).at
  generalize W3.alloc (.cells #[.int .i64 r.k, .int .i64 r.n, .bool r.g, .slice r.A r.ln r.lc, .int .u64 r.u, .string r.s, .slice r.B r.m r.d, .int .i64 r'.k, .int .i64 r'.n, .bool r'.g, .slice r'.A r'.ln r'.lc, .int .u64 r'.u, .string r'.s, .slice r'.B r'.m r'.d] 28) = W4 at *
  obtain ⟨z0, z1, z2, z3, z4, z5, z6⟩ : W4.cell? ⟨w.heap.size + 1 + 1, 0, none⟩ = some (.int .i64 8) ∧ W4.cell? ⟨w.heap.size + 1 + 1, 1, none⟩ = some (.int .i64 0) ∧ W4.cell? ⟨w.heap.size + 1 + 1, 2, none⟩ = some (.bool false) ∧ W4.cell? ⟨w.heap.size + 1 + 1, 3, none⟩ = some (.slice none 0 0) ∧ W4.cell? ⟨w.heap.size + 1 + 1, 4, none⟩ = some (.int .u64 0) ∧ W4.cell? ⟨w.heap.size + 1 + 1, 5, none⟩ = some (.string ⟨#[]⟩) ∧ W4.cell? ⟨w.heap.size + 1 + 1, 6, none⟩ = some (.slice (some ⟨w.heap.size + 1 + 1 + 1, 0, none⟩) 2 2) := ⟨B4.c0, B4.c1, B4.c2, B4.c3, B4.c4, B4.c5, B4.c6⟩
  exact bodyPost_ret (v := .agg #[.int .i64 8, .int .i64 0, .bool false, .slice none 0 0, .int .u64 0, .string ⟨#[]⟩, .slice (some ⟨w.heap.size + 1 + 1 + 1, 0, none⟩) 2 2]) (by simp [results, Try.results25, go_sem, z0, z1, z2, z3, z4, z5, z6]) rfl ⟨mkR 8 0 0 ⟨#[]⟩ (some ⟨w.heap.size + 1 + 1 + 1, 0, none⟩) 2 2, rfl, N, b4⟩
end Go.Proofs.Ytbhmkdbdhojmcaa

namespace Go.Proofs.Ytbhmkdbdhojmcaa
open Go.RowKit
open Od

set_option maxRecDepth 100000 in
theorem samesB_get : ∀ {ts us : List Tm} {j : Nat} {t u : Tm}, Tm.samesB ts us = true → ts[j]? = some t → us[j]? = some u → Tm.sameB t u = true
  | [], _, _, _, _, _, h, _ => by simp at h
  | _ :: _, [], _, _, _, h, _, _ => by simp [Tm.samesB] at h
  | a :: r, b :: s, 0, t, u, h, h1, h2 => by
    simp at h1 h2
    subst h1 h2
    rw [Tm.samesB, Bool.and_eq_true] at h
    exact h.1
  | a :: r, b :: s, j + 1, t, u, h, h1, h2 => by
    simp at h1 h2
    rw [Tm.samesB, Bool.and_eq_true] at h
    exact samesB_get h.2 h1 h2
set_option maxRecDepth 100000 in
theorem Tm.sameB_one (t : Tm) : ∀ t' : Tm, t.formB = true → t'.formB = true → Tm.sameB t t' = true → t = t' := by
  induction t using Tm.ind with
  | h k n g l u s ks ih =>
    obtain ⟨t, ht⟩ : ∃ t, t = Tm.mk k n g l u s ks := ⟨_, rfl⟩
    have hks : t.args = ks := by rw [ht]; rfl
    rw [← hks] at ih
    rw [← ht]
    clear hks ht
    intro t' hf hf' h
    rw [Tm.sameB_eq, ← Tm.form_ment hf, ← Tm.form_ment hf', Bool.and_eq_true] at h
    obtain ⟨ha, hs⟩ := h
    have hl := (Tm.alike_kind ha).2
    have hargs : t.args = t'.args := by
      refine List.ext_getElem? fun j => ?_
      by_cases hj : j < t.args.length
      · rw [List.getElem?_eq_getElem hj, List.getElem?_eq_getElem (hl ▸ hj)]
        have := samesB_get hs (List.getElem?_eq_getElem hj) (List.getElem?_eq_getElem (hl ▸ hj))
        rw [ih _ (List.getElem_mem hj) _ ((Tm.form_bound hf).2 _ (List.getElem_mem hj)) ((Tm.form_bound hf').2 _ (List.getElem_mem (hl ▸ hj))) this]
      · rw [List.getElem?_eq_none (by omega), List.getElem?_eq_none (by omega)]
    unfold Tm.alikeB at ha
    simp only [Bool.and_eq_true, beq_iff_eq, decide_eq_true_eq] at ha
    obtain ⟨⟨⟨⟨⟨h1, h2⟩, h3⟩, h4⟩, h5⟩, h6, _⟩ := ha
    have e : ∀ t : Tm, t = .mk t.kind t.num t.neg t.mag t.bits t.bytes t.args := fun t => by cases t; rfl
    exact (e t).trans (by rw [h1, h2, h3, h4, h5, h6, hargs]; exact (e t').symm)

set_option maxRecDepth 100000 in
set_option maxHeartbeats 2000000 in
theorem same_unlike (w : World) (r : TR) (t : Tm) (h : TV w r t) (ho : t.Ok) (r' : TR) (t' : Tm) (h' : TV w r' t') (ho' : t'.Ok) (hcc : t.cap ≠ t'.cap) :
    Calls Try.prog 20 #[.agg #[.int .i64 r.k, .int .i64 r.n, .bool r.g, .slice r.A r.ln r.lc, .int .u64 r.u, .string r.s, .slice r.B r.m r.d], .agg #[.int .i64 r'.k, .int .i64 r'.n, .bool r'.g, .slice r'.A r'.ln r'.lc, .int .u64 r'.u, .string r'.s, .slice r'.B r'.m r'.d]] w fun e w' => e = .returned (.bool false) ∧ Below w.heap.size w w' := by
  have I := SmI.new h h'
  clear h h'
  go_enter Try.func20, Try.ntmps20
  go_wp2_with fail
  generalize (w.alloc (.cells #[.int .i64 r.k, .int .i64 r.n, .bool r.g, .slice r.A r.ln r.lc, .int .u64 r.u, .string r.s, .slice r.B r.m r.d] 28)).alloc (.cells #[.int .i64 r'.k, .int .i64 r'.n, .bool r'.g, .slice r'.A r'.ln r'.lc, .int .u64 r'.u, .string r'.s, .slice r'.B r'.m r'.d] 28) = W at *
  refine (weight_any W r t I.tv ho).mono ?_
  rintro e w1 ⟨rfl, hb1⟩
  have I1 := I.below hb1
  clear I
  have y0 := I1.ix.at.c0; have y1 := I1.ix.at.c1; have y2 := I1.ix.at.c2; have y3 := I1.ix.at.c3; have y4 := I1.ix.at.c4; have y5 := I1.ix.at.c5; have y6 := I1.ix.at.c6
  go_wp2_with fail
  refine (weight_any w1 r' t' I1.tw ho').mono ?_
  rintro e w2 ⟨rfl, hb2⟩
  have I2 := I1.below hb2
  clear I1 y0 y1 y2 y3 y4 y5 y6
  have hd : ((t.cap : Int) != (t'.cap : Int)) = true := by rw [bne_iff_ne]; omega
  generalize t.cap = c at *
  generalize t'.cap = c' at *
  go_wp2
  go_ret
  exact ⟨rfl, I2.be⟩
set_option maxRecDepth 100000 in
theorem Tm.may_cap {t : Tm} (h : t.mayB = true) : t.cap ≤ 300 := by
  unfold Tm.mayB at h
  rw [Bool.and_eq_true] at h
  exact of_decide_eq_true h.1
set_option maxRecDepth 100000 in
/-- Same of terms that may be: just where they stand at one place. -/
theorem same_may (w : World) (r : TR) (t : Tm) (h : TV w r t) (ho : t.Ok) (r' : TR) (t' : Tm) (h' : TV w r' t') (ho' : t'.Ok) (hm : t.mayB = true) (hm' : t'.mayB = true) :
    Calls Try.prog 20 #[.agg #[.int .i64 r.k, .int .i64 r.n, .bool r.g, .slice r.A r.ln r.lc, .int .u64 r.u, .string r.s, .slice r.B r.m r.d], .agg #[.int .i64 r'.k, .int .i64 r'.n, .bool r'.g, .slice r'.A r'.ln r'.lc, .int .u64 r'.u, .string r'.s, .slice r'.B r'.m r'.d]] w fun e w' => e = .returned (.bool (Tm.ordB t t' == 0)) ∧ Below w.heap.size w w' := by
  rw [ordB_may hm hm']
  by_cases hcc : t.cap = t'.cap
  · have key : Tm.sameB t t' = (Tm.cmpT t t' == 0) := by
      cases hs : Tm.sameB t t' with
      | true =>
        rw [Tm.sameB_one t t' (Tm.may_form hm) (Tm.may_form hm') hs, Tm.cmpT_self]
        rfl
      | false =>
        symm
        rw [beq_eq_false_iff_ne]
        intro e
        have := Tm.cmpT_zero t t' (Tm.may_form hm) (Tm.may_form hm') h.rng h'.rng e
        rw [this, Tm.sameB_refl] at hs
        cases hs
    rw [← key]
    exact same_light w r t h ho r' t' h' ho' (Tm.may_cap hm) hcc.symm
  · have key : (Tm.cmpT t t' == 0) = false := by
      rw [beq_eq_false_iff_ne]
      intro e
      have := Tm.cmpT_zero t t' (Tm.may_form hm) (Tm.may_form hm') h.rng h'.rng e
      exact hcc (by rw [this])
    rw [key]
    exact same_unlike w r t h ho r' t' h' ho' hcc

/-- A head and a tail. -/
def consT (a b : Tm) : Tm := .mk 8 0 false [] 0 ⟨#[]⟩ [a, b]
set_option maxRecDepth 100000 in
theorem consT_ok {a b : Tm} (ha : a.Ok) (hb : b.Ok) : (consT a b).Ok := by
  unfold consT
  rw [Tm.ok_mk]
  refine ⟨by simp, by simp [ByteArray.size], fun t ht => ?_⟩
  simp at ht
  rcases ht with rfl | rfl
  · exact ha
  · exact hb
set_option maxRecDepth 100000 in
theorem consT_form (a b : Tm) : (consT a b).formB = (a.formB && b.formB) := by
  simp [consT, Tm.formB, Tm.formsB, Tm.alikeB, Tm.ment, Tm.boundB, Tm.kind, Tm.num, Tm.args, Tm.mag, Tm.neg, Tm.bits, Tm.bytes]
set_option maxRecDepth 100000 in
theorem consT_wt (a b : Tm) : (consT a b).wt = 1 + (a.wt + b.wt) := by simp [consT, Tm.wt, Tm.wts]
set_option maxRecDepth 100000 in
theorem wt_may {t : Tm} (h : t.mayB = true) : t.wt ≤ 300 := by
  have := Tm.may_cap h
  unfold Tm.cap at this
  omega
set_option maxRecDepth 100000 in
theorem consT_may {a b : Tm} (ha : a.formB = true) (hb : b.formB = true) : (consT a b).mayB = decide (1 + (a.wt + b.wt) ≤ 300) := by
  unfold Tm.mayB Tm.cap
  rw [consT_form, ha, hb, consT_wt]
  simp only [Bool.and_true]
  exact decide_eq_decide.2 (by omega)
set_option maxRecDepth 100000 in
theorem consT_cmp (c a b : Tm) : Tm.cmpT (consT c a) (consT c b) = Tm.cmpT a b := by
  rw [cmpT_node (a := consT c a) (b := consT c b) rfl (.inr rfl)]
  unfold cmpArgs
  show andC (Od.sg 2 2) (andC (Tm.cmpT c c) (andC (Tm.cmpT a b) 0)) = _
  rw [Tm.cmpT_self, andC_zero]
  rfl
set_option maxRecDepth 100000 in
/-- What OrderTotal asks of a pair: it stands as its tail does, or the longer list is too heavy. -/
theorem total_pair {a b c : Tm} (ha : a.mayB = true) (hb : b.mayB = true) (hc : c.mayB = true) (h : Tm.ordB (consT c a) (consT c b) ≠ Tm.ordB a b) : (listT [c, a, b, c]).mayB = false := by
  have fa := Tm.may_form ha
  have fb := Tm.may_form hb
  have fc := Tm.may_form hc
  cases h1 : (consT c a).mayB with
  | true =>
    cases h2 : (consT c b).mayB with
    | true => rw [ordB_may h1 h2, ordB_may ha hb, consT_cmp] at h; exact absurd rfl h
    | false =>
      rw [consT_may fc fb] at h2
      have := of_decide_eq_false h2
      unfold Tm.mayB
      rw [decide_eq_false, Bool.false_and]
      have hw : (listT [c, a, b, c]).wt = 1 + (c.wt + (1 + (a.wt + (1 + (b.wt + (1 + (c.wt + 1))))))) := by simp [listT, Tm.wt, Tm.wts, tNil]
      unfold Tm.cap
      omega
  | false =>
    rw [consT_may fc fa] at h1
    have := of_decide_eq_false h1
    unfold Tm.mayB
    rw [decide_eq_false, Bool.false_and]
    have hw : (listT [c, a, b, c]).wt = 1 + (c.wt + (1 + (a.wt + (1 + (b.wt + (1 + (c.wt + 1))))))) := by simp [listT, Tm.wt, Tm.wts, tNil]
    unfold Tm.cap
    omega
set_option maxRecDepth 100000 in
/-- A term that may be has no more parts than it weighs. -/
theorem size_wt (t : Tm) : t.formB = true → t.size ≤ t.wt := by
  induction t using Tm.ind with
  | h k n g l u s ks ih =>
    intro hf
    have hk := (Tm.form_bound hf).2
    have hsum : ∀ xs : List Tm, (∀ x ∈ xs, x ∈ ks) → Tm.size.sizes xs ≤ Tm.wts xs := by
      intro xs
      induction xs with
      | nil => intro _; simp [Tm.size.sizes, Tm.wts]
      | cons x r ihr =>
        intro hx
        have h1 := ih x (hx x (by simp)) (hk x (hx x (by simp)))
        have h2 := ihr fun y hy => hx y (by simp [hy])
        simp only [Tm.size.sizes, Tm.wts]
        omega
    by_cases h8 : k = 6 ∨ k = 8
    · have := hsum ks fun _ h => h
      rw [Tm.size, Tm.wt, if_neg (by omega), if_neg (by omega), if_pos h8]
      omega
    · have e : ks = [] := Tm.form_args (t := .mk k n g l u s ks) hf h8
      subst e
      have := Tm.wt_pos (.mk k n g l u s [])
      rw [Tm.size]
      simp only [Tm.size.sizes]
      omega
set_option maxRecDepth 100000 in
theorem listT_ok : ∀ {ts : List Tm}, (∀ t ∈ ts, t.Ok) → (listT ts).Ok
  | [], _ => tNil_ok
  | t :: r, h => consT_ok (h t (by simp)) (listT_ok fun x hx => h x (by simp [hx]))
end Go.Proofs.Ytbhmkdbdhojmcaa

namespace Go.Proofs.Ytbhmkdbdhojmcaa
open Go.RowKit

set_option maxRecDepth 100000 in
theorem low_nval (x : Int) (m : Nat) (hm : 0 < m) (hm' : m ≤ 1000000000) : ∃ r : Nat, r < m ∧ wrap64 ((IntKind.u64.wrap x).tmod m) = (r : Int) := by
  have h0 : 0 ≤ IntKind.u64.wrap x := by rw [IntKind.wrap_u64]; omega
  generalize IntKind.u64.wrap x = y at *
  have h1 : y.tmod m = y % m := Int.tmod_eq_emod_of_nonneg h0
  have h2 := Int.emod_nonneg y (show (m : Int) ≠ 0 by omega)
  have h3 := Int.emod_lt_of_pos y (show (0 : Int) < m by omega)
  rw [h1]
  generalize y % (m : Int) = z at *
  exact ⟨z.toNat, by omega, by simp only [wrap64]; omega⟩
set_option maxRecDepth 100000 in
theorem low_nat (x : Int) (m : Nat) (hm : 0 < m) (hm' : m ≤ 1000000000) : ∃ r : Nat, r < m ∧
    ∀ w : World, Calls Try.prog 23 #[.int .i64 x, .int .i64 m] w fun e w' => e = .returned (.int .i64 r) ∧ w = w' := by
  obtain ⟨r, h1, h2⟩ := low_nval x m hm hm'
  have H2 := Lib.hid h2
  clear h2
  refine ⟨r, h1, fun w => ?_⟩
  go_enter Try.func23, Try.ntmps23
  go_wp2
  go_ret
  exact ⟨by rw [← H2.out]; rfl, rfl⟩
end Go.Proofs.Ytbhmkdbdhojmcaa

namespace Go.Proofs.Ytbhmkdbdhojmcaa
open Go.RowKit
open Od

/-- A valid term of a class comes back. -/
def OfC (w : World) (c : Int) (e : Ending) (w' : World) : Prop :=
  ∃ (R : TR) (t : Tm), e = .returned (.agg #[.int .i64 R.k, .int .i64 R.n, .bool R.g, .slice R.A R.ln R.lc, .int .u64 R.u, .string R.s, .slice R.B R.m R.d]) ∧ TV w' R t ∧ Hid (t.Ok) ∧ Hid (t.mayB = true) ∧ Hid (cls t.kind = c + 1) ∧ Below w.heap.size w w'

set_option maxRecDepth 100000 in
theorem form_leafy {t : Tm} (hm : t = t.ment) (hb : t.boundB = true) (ha : t.args = []) : t.formB = true := by
  have h : Tm.alikeB t t.ment = true := by rw [← hm]; exact Tm.alikeB_refl t
  rw [Tm.formB_eq, h, hb, ha]; rfl
set_option maxRecDepth 100000 in
theorem may_atom {z : Nat} (h : z < 256) : Tm.mayB (.mk 4 z false [] 0 ⟨#[]⟩ []) = true :=
  may_small (by simp [Tm.wt]) (form_leafy rfl (show (decide ((0 : Int) ≤ (z : Int)) && decide ((z : Int) ≤ 255)) = true by rw [decide_eq_true (by omega), decide_eq_true (by omega)]; rfl) rfl)
set_option maxRecDepth 100000 in
theorem may_pid {z : Nat} (h : z < 64) : Tm.mayB (.mk 5 z false [] 0 ⟨#[]⟩ []) = true :=
  may_small (by simp [Tm.wt]) (form_leafy rfl (show (decide ((0 : Int) ≤ (z : Int)) && decide ((z : Int) ≤ 63)) = true by rw [decide_eq_true (by omega), decide_eq_true (by omega)]; rfl) rfl)
set_option maxRecDepth 100000 in
theorem may_bin {s : ByteArray} (h : s.size ≤ 400) : Tm.mayB (.mk 9 0 false [] 0 s []) = true :=
  may_small (by simp [Tm.wt]; omega) (form_leafy rfl (show decide (s.size ≤ 400) = true from decide_eq_true h) rfl)
set_option maxRecDepth 100000 in
theorem intT_wt {z : Int} (ht : z.natAbs < Lm.top) : (intT z).wt ≤ 9 := by
  have := (Lm.top_iff _).2 ht
  cases h : smallB z with
  | true => rw [intT_small ht h]; simp [Tm.wt]
  | false => rw [intT_big ht h]; simp [Tm.wt]; omega
set_option maxRecDepth 100000 in
theorem may_list {z : Int} (ht : z.natAbs < Lm.top) : (listT [intT z]).mayB = true := by
  have h : listT [intT z] = consT (intT z) tNil := rfl
  rw [h, consT_may (Tm.may_form (intT_may ht)) (Tm.may_form tNil_may)]
  have := intT_wt ht
  have e : tNil.wt = 1 := by simp [tNil, Tm.wt]
  rw [e]
  exact decide_eq_true (by omega)
/-- The numbers from 0 on. -/
def upto (n : Nat) : List Tm := (List.range n).map fun i : Nat => intT (i : Int)
set_option maxRecDepth 100000 in
theorem upto_succ (n : Nat) : upto (n + 1) = upto n ++ [intT (n : Int)] := by simp [upto, List.range_succ]
set_option maxRecDepth 100000 in
theorem upto_len (n : Nat) : (upto n).length = n := by simp [upto]
set_option maxRecDepth 100000 in
theorem top_nat {n : Nat} (h : n ≤ 1000) : (n : Int).natAbs < Lm.top := by have := Lm.top_ge; omega
set_option maxRecDepth 100000 in
theorem upto_mem {n : Nat} (h : n ≤ 8) {t : Tm} (ht : t ∈ upto n) : t.formB = true ∧ t.Ok ∧ t.wt ≤ 9 := by
  simp only [upto, List.mem_map, List.mem_range] at ht
  obtain ⟨i, hi, rfl⟩ := ht
  have := top_nat (n := i) (by omega)
  exact ⟨Tm.may_form (intT_may this), intT_ok this, intT_wt this⟩
set_option maxRecDepth 100000 in
theorem wts_le {ts : List Tm} {k : Nat} (h : ∀ t ∈ ts, t.wt ≤ k) : Tm.wts ts ≤ ts.length * k := by
  induction ts with
  | nil => simp [Tm.wts]
  | cons t r ih =>
    have h1 := h t (by simp)
    have h2 := ih fun x hx => h x (by simp [hx])
    simp only [Tm.wts, List.length_cons]
    rw [Nat.add_mul]
    omega
set_option maxRecDepth 100000 in
theorem may_tup {n : Nat} (h : n ≤ 8) : Tm.mayB (.mk 6 0 false [] 0 ⟨#[]⟩ (upto n)) = true := by
  refine may_small ?_ ?_
  · have := wts_le (ts := upto n) (k := 9) fun t ht => (upto_mem h ht).2.2
    rw [upto_len] at this
    simp [Tm.wt]
    omega
  · have hf : Tm.formsB (upto n) = true := Tm.formsB_iff.2 fun t ht => (upto_mem h ht).1
    have hl := upto_len n
    simp [Tm.formB, hf, Tm.alikeB, Tm.ment, Tm.boundB, Tm.kind, Tm.num, Tm.args, Tm.mag, Tm.neg, Tm.bits, Tm.bytes, hl]
    omega
set_option maxRecDepth 100000 in
theorem ok_tup {n : Nat} (h : n ≤ 8) : Tm.Ok (.mk 6 0 false [] 0 ⟨#[]⟩ (upto n)) :=
  Tm.ok_mk.2 ⟨by simp, by simp [ByteArray.size], fun t ht => (upto_mem h ht).2.1⟩
set_option maxRecDepth 100000 in
theorem ok_leaf {k z u : Int} : Tm.Ok (.mk k z false [] u ⟨#[]⟩ []) := Tm.ok_mk.2 ⟨by simp, by simp [ByteArray.size], by simp⟩
set_option maxRecDepth 100000 in
theorem und_bytes : Try.prog.underlying 61 = some (.slice 5) := by kernel_rfl
set_option maxRecDepth 100000 in
theorem und_u8 : Try.prog.underlying 5 = some (.int .u8) := by kernel_rfl
set_option maxRecDepth 100000 in
theorem und_str : Try.prog.underlying 9 = some .string := by kernel_rfl
set_option maxRecDepth 100000 in
theorem info_u8 : (Try.prog.info? 5).map (fun i => (i.zero, i.size, i.bytes)) = some (some (.int .u8 0), 1, 1) := by kernel_rfl
set_option maxRecDepth 100000 in
theorem make_bytes (n : Nat) (hn : n ≤ 1000) (w : World) :
    (Instr.makeSlice 61 (.int .i64 (n : Int)) (.int .i64 (n : Int))).run Try.prog w = .ok (.slice (some ⟨w.heap.size, 0, none⟩) n n) (w.alloc (.cells (madeCells #[.int .u8 0] n) 5)) :=
  run_make_row' _ _ (.int .u8 0) 1 und_bytes info_u8 rfl .i64 .i64 n (by omega) (by omega) w
set_option maxRecDepth 100000 in
theorem conv_bytes (n : Nat) (w : World) :
    (convert 61 9 (.slice (some ⟨w.heap.size, 0, none⟩) n n)).run Try.prog (w.alloc (.cells (madeCells #[.int .u8 0] n) 5)) = .ok (.string (strOfNums (List.replicate n 0))) (w.alloc (.cells (madeCells #[.int .u8 0] n) 5)) := by
  refine run_convert_bytes_arg _ 61 5 und_bytes und_u8 w.heap.size 0 n n (List.replicate n 0) (by simp) (fun i hi => ?_) 9 und_str
  rw [World.cell?_alloc_at _ _ _ _ rfl, Nat.zero_add]
  simp [madeCells, hi, Nat.mod_one]
/-- What stands while the tuple is made: the result, the tuple's variable, its row. -/
structure TuI (w : World) (j : Nat) (W : World) (B : Option Addr) (d : Nat) : Prop where
  bp : Box7 W w.heap.size zeroR
  bq : Box7 W (w.heap.size + 1) (mkR 6 0 0 ⟨#[]⟩ B j d)
  row : Row7 W (w.heap.size + 2) B j d (upto j)
  sz : w.heap.size + 2 ≤ W.heap.size
  be : Below w.heap.size w W
set_option maxRecDepth 100000 in
theorem TuI.below {w : World} {j : Nat} {W W' : World} {B : Option Addr} {d : Nat} (h : TuI w j W B d) (hb : Below W.heap.size W W') : TuI w j W' B d :=
  ⟨h.bp.below hb, h.bq.below hb, h.row.below hb, Nat.le_trans h.sz hb.size, h.be.trans (hb.mono h.be.size)⟩
set_option maxRecDepth 100000 in
theorem TuI.drew {w : World} {j : Nat} {W : World} {B : Option Addr} {d : Nat} (h : TuI w j W B d) : TuI w j W.drew B d := h.below (Below.refl _ _).drew
set_option maxRecDepth 100000 in
theorem TuI.new (w : World) : TuI w 0 ((w.alloc (.cells #[.int .i64 zeroR.k, .int .i64 zeroR.n, .bool zeroR.g, .slice zeroR.A zeroR.ln zeroR.lc, .int .u64 zeroR.u, .string zeroR.s, .slice zeroR.B zeroR.m zeroR.d] 28)).alloc (.cells #[.int .i64 6, .int .i64 0, .bool false, .slice none 0 0, .int .u64 0, .string ⟨#[]⟩, .slice none 0 0] 28)) none 0 := by
  have n := Box7.new (w.alloc (.cells #[.int .i64 zeroR.k, .int .i64 zeroR.n, .bool zeroR.g, .slice zeroR.A zeroR.ln zeroR.lc, .int .u64 zeroR.u, .string zeroR.s, .slice zeroR.B zeroR.m zeroR.d] 28)) (mkR 6 0 0 ⟨#[]⟩ none 0 0)
  rw [World.size_alloc] at n
  exact ⟨(Box7.new w zeroR).below ((Below.refl _ _).alloc (Nat.le_refl _) _), n, Row7.nil _ _, by simp, ((Below.refl _ _).alloc (Nat.le_refl _) _).alloc (by simp) _⟩
set_option maxRecDepth 100000 in
/-- One more number is put behind. -/
theorem TuI.push {w : World} {j : Nat} {W : World} {B : Option Addr} {d : Nat} (h : TuI w j W B d) {R : TR} (hT : TV W R (intT (j : Int))) (ht : (j : Int).natAbs < Lm.top) (hj : j ≤ 1000) :
    ∃ B' d' W', (Builtin.append_ #[26, 26] 26 #[.slice B j d, .slice (some ⟨W.heap.size, 0, none⟩) 1 1]).run Try.prog (W.alloc (.cells #[.int .i64 R.k, .int .i64 R.n, .bool R.g, .slice R.A R.ln R.lc, .int .u64 R.u, .string R.s, .slice R.B R.m R.d] 28)) = .ok (.slice B' (j + 1) d') W' ∧
      TuI w (j + 1) (W'.setCell ⟨w.heap.size + 1, 6, none⟩ (.slice B' (j + 1) d')) B' d' ∧ Box7 W' (w.heap.size + 1) (mkR 6 0 0 ⟨#[]⟩ B j d) := by
  have hsz := h.sz
  have bal := (Below.refl W.heap.size W).alloc (Nat.le_refl _) (.cells #[.int .i64 R.k, .int .i64 R.n, .bool R.g, .slice R.A R.ln R.lc, .int .u64 R.u, .string R.s, .slice R.B R.m R.d] 28)
  have H := h.below bal
  have hsm : smallB (j : Int) = true := by
    unfold smallB
    rw [decide_eq_true (by omega), decide_eq_true (by omega)]
    rfl
  have hln : R.ln = 0 := by
    rw [← hT.magLen, intT_small ht hsm]
    rfl
  have hm0 : R.m = 0 := by rw [← hT.len, intT_args ht]; rfl
  have ht2 : TVS (fun b => w.heap.size + 2 ≤ b ∧ (Value.slice B j d).ownBlock ≠ some b) (W.alloc (.cells #[.int .i64 R.k, .int .i64 R.n, .bool R.g, .slice R.A R.ln R.lc, .int .u64 R.u, .string R.s, .slice R.B R.m R.d] 28)) R (intT (j : Int)) :=
    TVS.leafy (hT.bel bal) (fun hh => absurd hh (by omega)) hm0
  obtain ⟨B', d', W', hrun, row3, hbr, _⟩ := H.row.push ht2 ⟨W.heap.size, 0, none⟩ 1 (fun k u hu => by
    rw [add_none, World.cell?_alloc_at _ _ _ _ rfl, Nat.zero_add]
    simpa [TR.cells] using hu) (by omega) (by simp; omega) 26
  rw [← upto_succ] at row3
  have bq3 : Box7 W' (w.heap.size + 1) (mkR 6 0 0 ⟨#[]⟩ B j d) := (hbr.block _ (by omega)).trans H.bq
  have bp3 : Box7 W' w.heap.size zeroR := (hbr.block _ (by omega)).trans H.bp
  have hsz3 : w.heap.size + 2 ≤ W'.heap.size := Nat.le_trans H.sz hbr.size
  have be3 : Below w.heap.size w W' := H.be.trans (hbr.mono (by omega))
  refine ⟨B', d', W', hrun, ⟨bp3.setO (by omega) _ _, bq3.set6 B' (j + 1) d', ?_, by simpa [World.setCell] using hsz3, be3.setCell (p := ⟨w.heap.size + 1, 6, none⟩) (by simp) _⟩, bq3⟩
  obtain ⟨V, h1, h2⟩ := row3.ex
  refine ⟨row3.len, V, ⟨h1.1, ?_⟩, fun i t e => ((h2 i t e).keep ((Keeps.refl _ _).setCell (p := ⟨w.heap.size + 1, 6, none⟩) (fun hh => by simp only at hh; omega) _))⟩
  rcases h1.2 with h0 | ⟨g, cap, cur, hv, hbg, hg, rest⟩
  · exact .inl h0
  · exact .inr ⟨g, cap, cur, hv, hbg, (Below.heap_setCell W' ⟨w.heap.size + 1, 6, none⟩ _ g (by simp only; omega)).trans hg, rest⟩
set_option maxRecDepth 100000 in
theorem str_size (n : Nat) : (strOfNums (List.replicate n 0)).size = n := by rw [strOfNums_size]; simp

set_option maxRecDepth 100000 in
set_option maxHeartbeats 4000000 in
theorem of_c0 (w : World) (n : Int) (hn1 : -9223372036854775808 ≤ n) (hn2 : n ≤ 9223372036854775807) : Calls Try.prog 24 #[.int .i64 0, .int .i64 n] w (OfC w 0) := by
  have b0 := (Below.refl w.heap.size w).alloc (Nat.le_refl _) (.cells #[.int .i64 zeroR.k, .int .i64 zeroR.n, .bool zeroR.g, .slice zeroR.A zeroR.ln zeroR.lc, .int .u64 zeroR.u, .string zeroR.s, .slice zeroR.B zeroR.m zeroR.d] 28)
  have hx := Box7.new w zeroR
  have hW : (w.alloc (.cells #[.int .i64 zeroR.k, .int .i64 zeroR.n, .bool zeroR.g, .slice zeroR.A zeroR.ln zeroR.lc, .int .u64 zeroR.u, .string zeroR.s, .slice zeroR.B zeroR.m zeroR.d] 28)).heap.size = w.heap.size + 1 := by simp
  go_enter Try.func24, Try.ntmps24
  go_wp2_with fail
  generalize w.alloc (.cells #[.int .i64 zeroR.k, .int .i64 zeroR.n, .bool zeroR.g, .slice zeroR.A zeroR.ln zeroR.lc, .int .u64 zeroR.u, .string zeroR.s, .slice zeroR.B zeroR.m zeroR.d] 28) = W at *
  refine (int_any W n hn1 hn2).mono ?_
  rintro e v ⟨R, rfl, hT, hv⟩
  have hx1 := hx.below hv
  have b1 := b0.trans (hv.mono b0.size)
  have TS : TVS (fun b => b ≠ w.heap.size) v R (intT n) := (TVS.num hT (intT_args (top64 hn1 hn2)) hx1 hx1).mono fun b h => h.1
  clear hT hx b0
  have f0 := hx1.frozen 0; have f1 := hx1.frozen 1; have f2 := hx1.frozen 2; have f3 := hx1.frozen 3; have f4 := hx1.frozen 4; have f5 := hx1.frozen 5; have f6 := hx1.frozen 6; have q0 := hx1.at.c0; have q1 := hx1.at.c1; have q2 := hx1.at.c2; have q3 := hx1.at.c3; have q4 := hx1.at.c4; have q5 := hx1.at.c5; have q6 := hx1.at.c6
  go_wp2
  have C := (hx1.put R).at
  have hB5 := b1.put7 (g := w.heap.size) (Nat.le_refl _) R
  have T5 := ((TS).keep ((Keeps.refl (fun b => b ≠ w.heap.size) v).put7 (g := w.heap.size) (by simp) R)).tv
  have y0 := C.c0; have y1 := C.c1; have y2 := C.c2; have y3 := C.c3; have y4 := C.c4; have y5 := C.c5; have y6 := C.c6
  clear C f0 f1 f2 f3 f4 f5 f6 q0 q1 q2 q3 q4 q5 q6
  change bodyPost _ _ _ _ _ (put7 v w.heap.size R)
  generalize put7 v w.heap.size R = W5 at *
  exact bodyPost_ret (v := .agg #[.int .i64 R.k, .int .i64 R.n, .bool R.g, .slice R.A R.ln R.lc, .int .u64 R.u, .string R.s, .slice R.B R.m R.d]) (by simp [results, Try.results24, go_sem, y0, y1, y2, y3, y4, y5, y6]) rfl ⟨R, intT n, rfl, T5, Lib.hid (intT_ok (top64 hn1 hn2)), Lib.hid (intT_may (top64 hn1 hn2)), Lib.hid (by rcases intT_kind (top64 hn1 hn2) with e | e <;> rw [e] <;> rfl), hB5⟩

set_option maxRecDepth 100000 in
set_option maxHeartbeats 4000000 in
theorem of_c1 (w : World) (n : Int) (_hn1 : -9223372036854775808 ≤ n) (_hn2 : n ≤ 9223372036854775807) : Calls Try.prog 24 #[.int .i64 1, .int .i64 n] w (OfC w 1) := by
  have b0 := (Below.refl w.heap.size w).alloc (Nat.le_refl _) (.cells #[.int .i64 zeroR.k, .int .i64 zeroR.n, .bool zeroR.g, .slice zeroR.A zeroR.ln zeroR.lc, .int .u64 zeroR.u, .string zeroR.s, .slice zeroR.B zeroR.m zeroR.d] 28)
  have hx := Box7.new w zeroR
  have hW : (w.alloc (.cells #[.int .i64 zeroR.k, .int .i64 zeroR.n, .bool zeroR.g, .slice zeroR.A zeroR.ln zeroR.lc, .int .u64 zeroR.u, .string zeroR.s, .slice zeroR.B zeroR.m zeroR.d] 28)).heap.size = w.heap.size + 1 := by simp
  obtain ⟨z, hz, hlow⟩ := low_nat n 256 (by omega) (by omega)
  go_enter Try.func24, Try.ntmps24
  go_wp2_with fail
  generalize w.alloc (.cells #[.int .i64 zeroR.k, .int .i64 zeroR.n, .bool zeroR.g, .slice zeroR.A zeroR.ln zeroR.lc, .int .u64 zeroR.u, .string zeroR.s, .slice zeroR.B zeroR.m zeroR.d] 28) = W at *
  refine (hlow W).mono ?_
  rintro e v ⟨rfl, rfl⟩
  go_wp2_with fail
  refine (atom_any W z (by omega) (by omega)).mono ?_
  rintro e v ⟨R, rfl, hT, hv⟩
  have hx1 := hx.below hv
  have b1 := b0.trans (hv.mono b0.size)
  have TS : TVS (fun b => b ≠ w.heap.size) v R (.mk 4 z false [] 0 ⟨#[]⟩ []) := (TVS.num hT rfl hx1 hx1).mono fun b h => h.1
  clear hT hx b0 hlow
  have f0 := hx1.frozen 0; have f1 := hx1.frozen 1; have f2 := hx1.frozen 2; have f3 := hx1.frozen 3; have f4 := hx1.frozen 4; have f5 := hx1.frozen 5; have f6 := hx1.frozen 6; have q0 := hx1.at.c0; have q1 := hx1.at.c1; have q2 := hx1.at.c2; have q3 := hx1.at.c3; have q4 := hx1.at.c4; have q5 := hx1.at.c5; have q6 := hx1.at.c6
  go_wp2
  have C := (hx1.put R).at
  have hB5 := b1.put7 (g := w.heap.size) (Nat.le_refl _) R
  have T5 := ((TS).keep ((Keeps.refl (fun b => b ≠ w.heap.size) v).put7 (g := w.heap.size) (by simp) R)).tv
  have y0 := C.c0; have y1 := C.c1; have y2 := C.c2; have y3 := C.c3; have y4 := C.c4; have y5 := C.c5; have y6 := C.c6
  clear C f0 f1 f2 f3 f4 f5 f6 q0 q1 q2 q3 q4 q5 q6
  change bodyPost _ _ _ _ _ (put7 v w.heap.size R)
  generalize put7 v w.heap.size R = W5 at *
  exact bodyPost_ret (v := .agg #[.int .i64 R.k, .int .i64 R.n, .bool R.g, .slice R.A R.ln R.lc, .int .u64 R.u, .string R.s, .slice R.B R.m R.d]) (by simp [results, Try.results24, go_sem, y0, y1, y2, y3, y4, y5, y6]) rfl ⟨R, .mk 4 z false [] 0 ⟨#[]⟩ [], rfl, T5, Lib.hid (ok_leaf), Lib.hid (may_atom hz), Lib.hid (rfl), hB5⟩

set_option maxRecDepth 100000 in
set_option maxHeartbeats 4000000 in
theorem of_c2 (w : World) (n : Int) (_hn1 : -9223372036854775808 ≤ n) (_hn2 : n ≤ 9223372036854775807) : Calls Try.prog 24 #[.int .i64 2, .int .i64 n] w (OfC w 2) := by
  have b0 := (Below.refl w.heap.size w).alloc (Nat.le_refl _) (.cells #[.int .i64 zeroR.k, .int .i64 zeroR.n, .bool zeroR.g, .slice zeroR.A zeroR.ln zeroR.lc, .int .u64 zeroR.u, .string zeroR.s, .slice zeroR.B zeroR.m zeroR.d] 28)
  have hx := Box7.new w zeroR
  have hW : (w.alloc (.cells #[.int .i64 zeroR.k, .int .i64 zeroR.n, .bool zeroR.g, .slice zeroR.A zeroR.ln zeroR.lc, .int .u64 zeroR.u, .string zeroR.s, .slice zeroR.B zeroR.m zeroR.d] 28)).heap.size = w.heap.size + 1 := by simp
  obtain ⟨z, hz, hlow⟩ := low_nat n 64 (by omega) (by omega)
  go_enter Try.func24, Try.ntmps24
  go_wp2_with fail
  generalize w.alloc (.cells #[.int .i64 zeroR.k, .int .i64 zeroR.n, .bool zeroR.g, .slice zeroR.A zeroR.ln zeroR.lc, .int .u64 zeroR.u, .string zeroR.s, .slice zeroR.B zeroR.m zeroR.d] 28) = W at *
  refine (hlow W).mono ?_
  rintro e v ⟨rfl, rfl⟩
  have TS : TVS (fun b => b ≠ w.heap.size) W (mkR 5 z 0 ⟨#[]⟩ none 0 0) (.mk 5 z false [] 0 ⟨#[]⟩ []) := TVS.leafy (TV.leaf (by omega) (by omega) (by omega) (by omega) (by omega) (by omega) (by decide)) (fun h => absurd h (by simp)) rfl
  clear hlow
  have f0 := hx.frozen 0; have f1 := hx.frozen 1; have f2 := hx.frozen 2; have f3 := hx.frozen 3; have f4 := hx.frozen 4; have f5 := hx.frozen 5; have f6 := hx.frozen 6; have q0 := hx.at.c0; have q1 := hx.at.c1; have q2 := hx.at.c2; have q3 := hx.at.c3; have q4 := hx.at.c4; have q5 := hx.at.c5; have q6 := hx.at.c6
  go_wp2
  have C := (hx.put (mkR 5 z 0 ⟨#[]⟩ none 0 0)).at
  have hB5 := b0.put7 (g := w.heap.size) (Nat.le_refl _) (mkR 5 z 0 ⟨#[]⟩ none 0 0)
  have T5 := ((TS).keep ((Keeps.refl (fun b => b ≠ w.heap.size) W).put7 (g := w.heap.size) (by simp) (mkR 5 z 0 ⟨#[]⟩ none 0 0))).tv
  have y0 := C.c0; have y1 := C.c1; have y2 := C.c2; have y3 := C.c3; have y4 := C.c4; have y5 := C.c5; have y6 := C.c6
  clear C f0 f1 f2 f3 f4 f5 f6 q0 q1 q2 q3 q4 q5 q6
  change bodyPost _ _ _ _ _ (put7 W w.heap.size (mkR 5 z 0 ⟨#[]⟩ none 0 0))
  generalize put7 W w.heap.size (mkR 5 z 0 ⟨#[]⟩ none 0 0) = W5 at *
  exact bodyPost_ret (v := .agg #[.int .i64 5, .int .i64 z, .bool false, .slice none 0 0, .int .u64 0, .string ⟨#[]⟩, .slice none 0 0]) (by simp [results, Try.results24, go_sem, y0, y1, y2, y3, y4, y5, y6]) rfl ⟨(mkR 5 z 0 ⟨#[]⟩ none 0 0), .mk 5 z false [] 0 ⟨#[]⟩ [], rfl, T5, Lib.hid (ok_leaf), Lib.hid (may_pid hz), Lib.hid (rfl), hB5⟩

set_option maxRecDepth 100000 in
set_option maxHeartbeats 4000000 in
theorem of_c4 (w : World) (n : Int) (_hn1 : -9223372036854775808 ≤ n) (_hn2 : n ≤ 9223372036854775807) : Calls Try.prog 24 #[.int .i64 4, .int .i64 n] w (OfC w 4) := by
  go_enter Try.func24, Try.ntmps24
  go_wp2
  have b0 := (Below.refl w.heap.size w).alloc (Nat.le_refl _) (.cells #[.int .i64 7, .int .i64 0, .bool false, .slice none 0 0, .int .u64 0, .string ⟨#[]⟩, .slice none 0 0] 28)
  have hx : Box7 (w.alloc (.cells #[.int .i64 7, .int .i64 0, .bool false, .slice none 0 0, .int .u64 0, .string ⟨#[]⟩, .slice none 0 0] 28)) w.heap.size (mkR 7 0 0 ⟨#[]⟩ none 0 0) := Box7.new w (mkR 7 0 0 ⟨#[]⟩ none 0 0)
  generalize w.alloc (.cells #[.int .i64 7, .int .i64 0, .bool false, .slice none 0 0, .int .u64 0, .string ⟨#[]⟩, .slice none 0 0] 28) = W at *
  have y0 := hx.at.c0; have y1 := hx.at.c1; have y2 := hx.at.c2; have y3 := hx.at.c3; have y4 := hx.at.c4; have y5 := hx.at.c5; have y6 := hx.at.c6
  exact bodyPost_ret (v := .agg #[.int .i64 7, .int .i64 0, .bool false, .slice none 0 0, .int .u64 0, .string ⟨#[]⟩, .slice none 0 0]) (by simp [results, Try.results24, go_sem, y0, y1, y2, y3, y4, y5, y6]) rfl ⟨mkR 7 0 0 ⟨#[]⟩ none 0 0, tNil, rfl, tNil_tv _, Lib.hid tNil_ok, Lib.hid tNil_may, Lib.hid rfl, b0⟩

set_option maxRecDepth 100000 in
set_option maxHeartbeats 4000000 in
theorem of_c5 (w : World) (n : Int) (hn1 : -9223372036854775808 ≤ n) (hn2 : n ≤ 9223372036854775807) : Calls Try.prog 24 #[.int .i64 5, .int .i64 n] w (OfC w 5) := by
  have b0 := (Below.refl w.heap.size w).alloc (Nat.le_refl _) (.cells #[.int .i64 zeroR.k, .int .i64 zeroR.n, .bool zeroR.g, .slice zeroR.A zeroR.ln zeroR.lc, .int .u64 zeroR.u, .string zeroR.s, .slice zeroR.B zeroR.m zeroR.d] 28)
  have hx := Box7.new w zeroR
  have hW : (w.alloc (.cells #[.int .i64 zeroR.k, .int .i64 zeroR.n, .bool zeroR.g, .slice zeroR.A zeroR.ln zeroR.lc, .int .u64 zeroR.u, .string zeroR.s, .slice zeroR.B zeroR.m zeroR.d] 28)).heap.size = w.heap.size + 1 := by simp
  go_enter Try.func24, Try.ntmps24
  go_wp2_with fail
  generalize w.alloc (.cells #[.int .i64 zeroR.k, .int .i64 zeroR.n, .bool zeroR.g, .slice zeroR.A zeroR.ln zeroR.lc, .int .u64 zeroR.u, .string zeroR.s, .slice zeroR.B zeroR.m zeroR.d] 28) = W at *
  refine (int_any W n hn1 hn2).mono ?_
  rintro e v ⟨R, rfl, hT, hv⟩
  have hx1 := hx.below hv
  have b1 := b0.trans (hv.mono b0.size)
  have ts1 := TVs.one hT
  have hal := (Below.refl v.heap.size v).alloc (Nat.le_refl _) (.cells #[.int .i64 R.k, .int .i64 R.n, .bool R.g, .slice R.A R.ln R.lc, .int .u64 R.u, .string R.s, .slice R.B R.m R.d] 28)
  have hx2 := hx1.below hal
  have b2 := b1.trans (hal.mono b1.size)
  clear hT hx b0 hx1 b1 hal
  go_wp2_with fail
  generalize v.alloc (.cells #[.int .i64 R.k, .int .i64 R.n, .bool R.g, .slice R.A R.ln R.lc, .int .u64 R.u, .string R.s, .slice R.B R.m R.d] 28) = V at *
  refine (list_cp V _ 1 1 [intT n] (by exact ts1) (by simp [intT_ok (top64 hn1 hn2)]) (by simp [Tm.size.sizes]; have := size_wt (intT n) (Tm.may_form (intT_may (top64 hn1 hn2))); have := intT_wt (top64 hn1 hn2); omega)).mono ?_
  rintro e v2 ⟨R2, rfl, hT2, hv2⟩
  have hx3 := hx2.below hv2
  have b3 := b2.trans (hv2.mono b2.size)
  have hlt := hx2.lt
  have TS : TVS (fun b => b ≠ w.heap.size) v2 R2 (listT [intT n]) := hT2.mono fun b h => by omega
  clear hx2 b2 ts1 hT2
  have f0 := hx3.frozen 0; have f1 := hx3.frozen 1; have f2 := hx3.frozen 2; have f3 := hx3.frozen 3; have f4 := hx3.frozen 4; have f5 := hx3.frozen 5; have f6 := hx3.frozen 6; have q0 := hx3.at.c0; have q1 := hx3.at.c1; have q2 := hx3.at.c2; have q3 := hx3.at.c3; have q4 := hx3.at.c4; have q5 := hx3.at.c5; have q6 := hx3.at.c6
  go_wp2
  have C := (hx3.put R2).at
  have hB5 := b3.put7 (g := w.heap.size) (Nat.le_refl _) R2
  have T5 := ((TS).keep ((Keeps.refl (fun b => b ≠ w.heap.size) v2).put7 (g := w.heap.size) (by simp) R2)).tv
  have y0 := C.c0; have y1 := C.c1; have y2 := C.c2; have y3 := C.c3; have y4 := C.c4; have y5 := C.c5; have y6 := C.c6
  clear C f0 f1 f2 f3 f4 f5 f6 q0 q1 q2 q3 q4 q5 q6
  change bodyPost _ _ _ _ _ (put7 v2 w.heap.size R2)
  generalize put7 v2 w.heap.size R2 = W5 at *
  exact bodyPost_ret (v := .agg #[.int .i64 R2.k, .int .i64 R2.n, .bool R2.g, .slice R2.A R2.ln R2.lc, .int .u64 R2.u, .string R2.s, .slice R2.B R2.m R2.d]) (by simp [results, Try.results24, go_sem, y0, y1, y2, y3, y4, y5, y6]) rfl ⟨R2, listT [intT n], rfl, T5, Lib.hid (listT_ok (by simp [intT_ok (top64 hn1 hn2)])), Lib.hid (may_list (top64 hn1 hn2)), Lib.hid (rfl), hB5⟩

set_option maxRecDepth 100000 in
set_option maxHeartbeats 4000000 in
theorem of_c6 (w : World) (n : Int) (_hn1 : -9223372036854775808 ≤ n) (_hn2 : n ≤ 9223372036854775807) : Calls Try.prog 24 #[.int .i64 6, .int .i64 n] w (OfC w 6) := by
  have b0 := (Below.refl w.heap.size w).alloc (Nat.le_refl _) (.cells #[.int .i64 zeroR.k, .int .i64 zeroR.n, .bool zeroR.g, .slice zeroR.A zeroR.ln zeroR.lc, .int .u64 zeroR.u, .string zeroR.s, .slice zeroR.B zeroR.m zeroR.d] 28)
  have hx := Box7.new w zeroR
  have hW : (w.alloc (.cells #[.int .i64 zeroR.k, .int .i64 zeroR.n, .bool zeroR.g, .slice zeroR.A zeroR.ln zeroR.lc, .int .u64 zeroR.u, .string zeroR.s, .slice zeroR.B zeroR.m zeroR.d] 28)).heap.size = w.heap.size + 1 := by simp
  obtain ⟨z, hz, hlow⟩ := low_nat n 401 (by omega) (by omega)
  have hmk := make_bytes z (by omega)
  go_enter Try.func24, Try.ntmps24
  go_wp2_with fail
  generalize w.alloc (.cells #[.int .i64 zeroR.k, .int .i64 zeroR.n, .bool zeroR.g, .slice zeroR.A zeroR.ln zeroR.lc, .int .u64 zeroR.u, .string zeroR.s, .slice zeroR.B zeroR.m zeroR.d] 28) = W at *
  refine (hlow W).mono ?_
  rintro e v ⟨rfl, rfl⟩
  have hcv := conv_bytes z W
  rw [hW] at hcv
  have hs := str_size z
  have TS : TVS (fun b => b ≠ w.heap.size) W (mkR 9 0 0 (strOfNums (List.replicate z 0)) none 0 0) (.mk 9 0 false [] 0 (strOfNums (List.replicate z 0)) []) := TVS.leafy (TV.leaf (by omega) (by omega) (by omega) (by omega) (by omega) (by omega) (by rw [hs]; unfold maxLen; omega)) (fun h => absurd h (by simp)) rfl
  have okb : Tm.Ok (.mk 9 0 false [] 0 (strOfNums (List.replicate z 0)) []) := Tm.ok_mk.2 ⟨by simp, by rw [hs]; omega, by simp⟩
  have mb := may_bin (s := strOfNums (List.replicate z 0)) (by rw [hs]; omega)
  clear hlow hs
  have f0 := hx.frozen 0; have f1 := hx.frozen 1; have f2 := hx.frozen 2; have f3 := hx.frozen 3; have f4 := hx.frozen 4; have f5 := hx.frozen 5; have f6 := hx.frozen 6; have q0 := hx.at.c0; have q1 := hx.at.c1; have q2 := hx.at.c2; have q3 := hx.at.c3; have q4 := hx.at.c4; have q5 := hx.at.c5; have q6 := hx.at.c6
  go_wp2
  have hps := put7_size W w.heap.size (mkR 9 0 0 (strOfNums (List.replicate z 0)) none 0 0)
  have C := ((hx.put (mkR 9 0 0 (strOfNums (List.replicate z 0)) none 0 0)).below ((Below.refl _ _).alloc (Nat.le_refl _) (.cells (madeCells #[.int .u8 0] z) 5))).at
  have hB5 := (b0.put7 (g := w.heap.size) (Nat.le_refl _) (mkR 9 0 0 (strOfNums (List.replicate z 0)) none 0 0)).alloc (by rw [hps]; omega) (.cells (madeCells #[.int .u8 0] z) 5)
  have T5 := (TS.keep (((Keeps.refl (fun b => b ≠ w.heap.size) W).put7 (g := w.heap.size) (by simp) (mkR 9 0 0 (strOfNums (List.replicate z 0)) none 0 0)).alloc (.cells (madeCells #[.int .u8 0] z) 5))).tv
  have y0 := C.c0; have y1 := C.c1; have y2 := C.c2; have y3 := C.c3; have y4 := C.c4; have y5 := C.c5; have y6 := C.c6
  clear C f0 f1 f2 f3 f4 f5 f6 q0 q1 q2 q3 q4 q5 q6
  change bodyPost _ _ _ _ _ ((put7 W w.heap.size (mkR 9 0 0 (strOfNums (List.replicate z 0)) none 0 0)).alloc (.cells (madeCells #[.int .u8 0] z) 5))
  generalize (put7 W w.heap.size (mkR 9 0 0 (strOfNums (List.replicate z 0)) none 0 0)).alloc (.cells (madeCells #[.int .u8 0] z) 5) = W5 at *
  exact bodyPost_ret (v := .agg #[.int .i64 9, .int .i64 0, .bool false, .slice none 0 0, .int .u64 0, .string (strOfNums (List.replicate z 0)), .slice none 0 0]) (by simp [results, Try.results24, go_sem, y0, y1, y2, y3, y4, y5, y6]) rfl ⟨mkR 9 0 0 (strOfNums (List.replicate z 0)) none 0 0, .mk 9 0 false [] 0 (strOfNums (List.replicate z 0)) [], rfl, T5, Lib.hid okb, Lib.hid mb, Lib.hid rfl, hB5⟩

set_option maxRecDepth 100000 in
set_option maxHeartbeats 4000000 in
theorem of_c3 (w : World) (n : Int) (_hn1 : -9223372036854775808 ≤ n) (_hn2 : n ≤ 9223372036854775807) : Calls Try.prog 24 #[.int .i64 3, .int .i64 n] w (OfC w 3) := by
  have b0 := (Below.refl w.heap.size w).alloc (Nat.le_refl _) (.cells #[.int .i64 zeroR.k, .int .i64 zeroR.n, .bool zeroR.g, .slice zeroR.A zeroR.ln zeroR.lc, .int .u64 zeroR.u, .string zeroR.s, .slice zeroR.B zeroR.m zeroR.d] 28)
  have hx := Box7.new w zeroR
  have hW : (w.alloc (.cells #[.int .i64 zeroR.k, .int .i64 zeroR.n, .bool zeroR.g, .slice zeroR.A zeroR.ln zeroR.lc, .int .u64 zeroR.u, .string zeroR.s, .slice zeroR.B zeroR.m zeroR.d] 28)).heap.size = w.heap.size + 1 := by simp
  obtain ⟨z, hz, hlow⟩ := low_nat n 9 (by omega) (by omega)
  go_enter Try.func24, Try.ntmps24
  go_wp2_with fail
  have J0 : TuI w 0 (((w.alloc (.cells #[.int .i64 zeroR.k, .int .i64 zeroR.n, .bool zeroR.g, .slice zeroR.A zeroR.ln zeroR.lc, .int .u64 zeroR.u, .string zeroR.s, .slice zeroR.B zeroR.m zeroR.d] 28)).alloc (.cells #[.int .i64 6, .int .i64 0, .bool false, .slice none 0 0, .int .u64 0, .string ⟨#[]⟩, .slice none 0 0] 28))) none 0 := TuI.new w
  clear b0 hx hW
  change Code.wp _ _ _ _ ((w.alloc (.cells #[.int .i64 zeroR.k, .int .i64 zeroR.n, .bool zeroR.g, .slice zeroR.A zeroR.ln zeroR.lc, .int .u64 zeroR.u, .string zeroR.s, .slice zeroR.B zeroR.m zeroR.d] 28)).alloc (.cells #[.int .i64 6, .int .i64 0, .bool false, .slice none 0 0, .int .u64 0, .string ⟨#[]⟩, .slice none 0 0] 28))
  generalize (w.alloc (.cells #[.int .i64 zeroR.k, .int .i64 zeroR.n, .bool zeroR.g, .slice zeroR.A zeroR.ln zeroR.lc, .int .u64 zeroR.u, .string zeroR.s, .slice zeroR.B zeroR.m zeroR.d] 28)).alloc (.cells #[.int .i64 6, .int .i64 0, .bool false, .slice none 0 0, .int .u64 0, .string ⟨#[]⟩, .slice none 0 0] 28) = W at *
  go_loopw [6] (fun i w' => ∃ (j : Nat) (B : Option Addr) (d : Nat), j ≤ z ∧ i = .int .i64 (j : Int) ∧ TuI w j w' B d) (fun i _ => z - (intOf i).toNat)
  case atStart => exact ⟨0, none, 0, Nat.zero_le _, rfl, J0⟩
  case round =>
    clear J0
    obtain ⟨j, B, d, hj, rfl, J⟩ := hrel
    by_cases hjm : j < z
    · have hd1 : decide ((j : Int) < (z : Int)) = true := decide_eq_true (by omega)
      go_wp2_with fail
      refine (hlow wr).mono ?_
      rintro e v ⟨rfl, rfl⟩
      have hlo := top_nat (n := j) (by omega)
      have y6 := J.bq.at.c6
      have HJ := Lib.hid J.drew
      clear J
      go_upto_region 13 with fail
      go_region_law (first
        | (refine step_app rfl _ _ 26 rfl _ _ _ rfl rfl HR.out ?_)
        | (go_simp; go_at_call 26; refine (int_any wr.drew j (by omega) (by omega)).mono ?_; rintro e v ⟨R, rfl, hT, hv⟩; have J2 := HJ.out.below hv; have y6' := J2.bq.at.c6; have y6'' := (J2.below ((Below.refl _ _).alloc (Nat.le_refl _) (.cells #[.int .i64 R.k, .int .i64 R.n, .bool R.g, .slice R.A R.ln R.lc, .int .u64 R.u, .string R.s, .slice R.B R.m R.d] 28))).bq.at.c6; obtain ⟨B', d', w3, hrun, J3, bx3⟩ := J2.push hT hlo (by omega); have HR := Lib.hid hrun; have H3 := Lib.hid J3; clear hrun J3 J2; have x6 := bx3.at.c6; have g6 := bx3.frozen 6))
      all_goals
        go_wp2_with fail
        exact ⟨⟨j + 1, B', d', by omega, by go_num, H3.out⟩, by simp [intOf]; omega⟩
    · have hd1 : decide ((j : Int) < (z : Int)) = false := decide_eq_false (by omega)
      have e : j = z := by omega
      subst e
      go_wp2_with fail
      refine (hlow wr).mono ?_
      rintro e v ⟨rfl, rfl⟩
      have T0 : TVS (fun b => b ≠ w.heap.size) wr (mkR 6 0 0 ⟨#[]⟩ B j d) (.mk 6 0 false [] 0 ⟨#[]⟩ (upto j)) := TVS.node (J.row.tvs.mono fun b h => by omega) (by omega) (by omega) (by omega) (by omega) (by omega) (by omega) (by decide)
      have hjz : j ≤ 8 := by omega
      have x0 := J.bq.at.c0; have x1 := J.bq.at.c1; have x2 := J.bq.at.c2; have x3 := J.bq.at.c3; have x4 := J.bq.at.c4; have x5 := J.bq.at.c5; have x6 := J.bq.at.c6
      have f0 := J.bp.frozen 0; have f1 := J.bp.frozen 1; have f2 := J.bp.frozen 2; have f3 := J.bp.frozen 3; have f4 := J.bp.frozen 4; have f5 := J.bp.frozen 5; have f6 := J.bp.frozen 6; have q0 := J.bp.at.c0; have q1 := J.bp.at.c1; have q2 := J.bp.at.c2; have q3 := J.bp.at.c3; have q4 := J.bp.at.c4; have q5 := J.bp.at.c5; have q6 := J.bp.at.c6
      go_wp2
      have C := (J.bp.put (mkR 6 0 0 ⟨#[]⟩ B j d)).at
      have hB5 := J.be.put7 (g := w.heap.size) (Nat.le_refl _) (mkR 6 0 0 ⟨#[]⟩ B j d)
      have T5 := ((T0).keep ((Keeps.refl (fun b => b ≠ w.heap.size) wr).put7 (g := w.heap.size) (by simp) (mkR 6 0 0 ⟨#[]⟩ B j d))).tv
      have y0 := C.c0; have y1 := C.c1; have y2 := C.c2; have y3 := C.c3; have y4 := C.c4; have y5 := C.c5; have y6 := C.c6
      clear C f0 f1 f2 f3 f4 f5 f6 q0 q1 q2 q3 q4 q5 q6
      change bodyPost _ _ _ _ _ (put7 wr w.heap.size (mkR 6 0 0 ⟨#[]⟩ B j d))
      generalize put7 wr w.heap.size (mkR 6 0 0 ⟨#[]⟩ B j d) = W5 at *
      exact bodyPost_ret (v := .agg #[.int .i64 6, .int .i64 0, .bool false, .slice none 0 0, .int .u64 0, .string ⟨#[]⟩, .slice B j d]) (by simp [results, Try.results24, go_sem, y0, y1, y2, y3, y4, y5, y6]) rfl ⟨(mkR 6 0 0 ⟨#[]⟩ B j d), .mk 6 0 false [] 0 ⟨#[]⟩ (upto j), rfl, T5, Lib.hid (ok_tup hjz), Lib.hid (may_tup hjz), Lib.hid (rfl), hB5⟩
end Go.Proofs.Ytbhmkdbdhojmcaa
