/-
  PLAIN MATHEMATICS OF ORDERS THAT ANSWER -1, 0 OR 1: one behind the other, and along lists. Nothing of the program stands here.
  THE ORDER OF TERMS, by keys: a class, a list of numbers, the arguments. Nothing of the program stands here.
  TERMS THAT STAND AT ONE PLACE ARE ONE, where they may be. Nothing of the program stands here.
  PACKAGE order: class, compareNumbers, what it calls.
  PACKAGE order: compareNumbers.
  PACKAGE order: compareArgs, compare.
  PACKAGE order: Cmp, Less.
-/
import Derived.Test.YtbhmkdbdhojmcaaJ7
import Derived.Test.YtbhmkdbdhojmcaaJ9
import Derived.Test.YtbhmkdbdhojmcaaJ8
import Derived.Test.YtbhmkdbdhojmcaaJ4
namespace Go.Proofs.Ytbhmkdbdhojmcaa
namespace Od

/-- The sign of a difference. -/
def sg (a b : Int) : Int := if a < b then -1 else if b < a then 1 else 0
/-- The first, and where it is 0 the second. -/
def andC (x y : Int) : Int := if x = 0 then y else x
/-- Along two lists; of which one is the beginning of the other the shorter one is lesser. -/
def lex {α : Type} (f : α → α → Int) : List α → List α → Int
  | [], [] => 0
  | [], _ :: _ => -1
  | _ :: _, [] => 1
  | x :: xs, y :: ys => andC (f x y) (lex f xs ys)

/-- An answer is -1, 0 or 1. -/
def Tri (x : Int) : Prop := x = -1 ∨ x = 0 ∨ x = 1
set_option maxRecDepth 100000 in
theorem sg_tri (a b : Int) : Tri (sg a b) := by
  unfold sg Tri
  repeat' split
  all_goals simp
set_option maxRecDepth 100000 in
theorem andC_tri {x y : Int} (hx : Tri x) (hy : Tri y) : Tri (andC x y) := by unfold andC; split <;> assumption
set_option maxRecDepth 100000 in
theorem lex_tri {α : Type} {f : α → α → Int} : ∀ {xs ys : List α}, (∀ x ∈ xs, ∀ y ∈ ys, Tri (f x y)) → Tri (lex f xs ys)
  | [], [], _ => .inr (.inl rfl)
  | [], _ :: _, _ => .inl rfl
  | _ :: _, [], _ => .inr (.inr rfl)
  | x :: xs, y :: ys, h => andC_tri (h x (by simp) y (by simp)) (lex_tri fun a ha b hb => h a (by simp [ha]) b (by simp [hb]))

set_option maxRecDepth 100000 in
theorem sg_anti (a b : Int) : sg b a = -sg a b := by
  unfold sg
  by_cases h1 : a < b
  · rw [if_neg (by omega), if_pos h1, if_pos h1]; rfl
  · by_cases h2 : b < a
    · rw [if_pos h2, if_neg h1, if_pos h2]
    · rw [if_neg h2, if_neg h1, if_neg h1, if_neg h2]; rfl
set_option maxRecDepth 100000 in
theorem andC_anti {x y x' y' : Int} (hx : x' = -x) (hy : y' = -y) : andC x' y' = -andC x y := by
  unfold andC
  by_cases h : x = 0
  · rw [if_pos h, if_pos (by omega), hy]
  · rw [if_neg h, if_neg (by omega), hx]
set_option maxRecDepth 100000 in
theorem lex_anti {α : Type} {f : α → α → Int} : ∀ {xs ys : List α}, (∀ x ∈ xs, ∀ y ∈ ys, f y x = -f x y) → lex f ys xs = -lex f xs ys
  | [], [], _ => rfl
  | [], _ :: _, _ => rfl
  | _ :: _, [], _ => rfl
  | x :: xs, y :: ys, h => andC_anti (h x (by simp) y (by simp)) (lex_anti fun a ha b hb => h a (by simp [ha]) b (by simp [hb]))

/-- What goes along: of three answers, from the first to the second, from there to the third, and from the first to the third. -/
structure Alo (x y z : Int) : Prop where
  le : x ≤ 0 → y ≤ 0 → z ≤ 0
  ge : 0 ≤ x → 0 ≤ y → 0 ≤ z
  lt1 : x < 0 → y ≤ 0 → z < 0
  lt2 : x ≤ 0 → y < 0 → z < 0
  gt1 : 0 < x → 0 ≤ y → 0 < z
  gt2 : 0 ≤ x → 0 < y → 0 < z
set_option maxRecDepth 100000 in
theorem Alo.zero : Alo 0 0 0 := ⟨by omega, by omega, by omega, by omega, by omega, by omega⟩
set_option maxRecDepth 100000 in
theorem sg_lt {a b : Int} : sg a b < 0 ↔ a < b := by
  unfold sg
  repeat' split
  all_goals omega
set_option maxRecDepth 100000 in
theorem sg_le {a b : Int} : sg a b ≤ 0 ↔ a ≤ b := by
  unfold sg
  repeat' split
  all_goals omega
set_option maxRecDepth 100000 in
theorem sg_gt {a b : Int} : 0 < sg a b ↔ b < a := by
  unfold sg
  repeat' split
  all_goals omega
set_option maxRecDepth 100000 in
theorem sg_ge {a b : Int} : 0 ≤ sg a b ↔ b ≤ a := by
  unfold sg
  repeat' split
  all_goals omega
set_option maxRecDepth 100000 in
theorem sg_eq {a b : Int} : sg a b = 0 ↔ a = b := by
  unfold sg
  repeat' split
  all_goals omega
set_option maxRecDepth 100000 in
theorem sg_alo (a b c : Int) : Alo (sg a b) (sg b c) (sg a c) := by
  constructor <;> simp only [sg_lt, sg_le, sg_gt, sg_ge] <;> omega
set_option maxRecDepth 100000 in
theorem andC_alo {x y z x' y' z' : Int} (h : Alo x y z) (h' : Alo x' y' z') : Alo (andC x x') (andC y y') (andC z z') := by
  have h1 := h.le
  have h2 := h.ge
  have h3 := h.lt1
  have h4 := h.lt2
  have h5 := h.gt1
  have h6 := h.gt2
  have k1 := h'.le
  have k2 := h'.ge
  have k3 := h'.lt1
  have k4 := h'.lt2
  have k5 := h'.gt1
  have k6 := h'.gt2
  unfold andC
  constructor <;> (split <;> split <;> split <;> omega)
set_option maxRecDepth 100000 in
theorem lex_alo {α : Type} {f : α → α → Int} : ∀ {xs ys zs : List α}, (∀ x ∈ xs, ∀ y ∈ ys, ∀ z ∈ zs, Alo (f x y) (f y z) (f x z)) → Alo (lex f xs ys) (lex f ys zs) (lex f xs zs)
  | [], [], [], _ => .zero
  | [], [], _ :: _, _ => by simp only [lex]; constructor <;> omega
  | [], _ :: _, [], _ => by simp only [lex]; constructor <;> omega
  | [], y :: ys, z :: zs, _ => by
    simp only [lex]
    constructor <;> omega
  | _ :: _, [], [], _ => by simp only [lex]; constructor <;> omega
  | x :: xs, [], z :: zs, _ => by
    simp only [lex]
    constructor <;> omega
  | x :: xs, y :: ys, [], _ => by
    simp only [lex]
    constructor <;> omega
  | x :: xs, y :: ys, z :: zs, h => andC_alo (h x (by simp) y (by simp) z (by simp)) (lex_alo fun a ha b hb c hc => h a (by simp [ha]) b (by simp [hb]) c (by simp [hc]))
set_option maxRecDepth 100000 in
theorem andC_eq {x y : Int} : andC x y = 0 ↔ x = 0 ∧ y = 0 := by
  unfold andC
  split
  · next h => simp [h]
  · next h => simp [h]
set_option maxRecDepth 100000 in
theorem lex_eq {α : Type} {f : α → α → Int} : ∀ {xs ys : List α}, (∀ x ∈ xs, ∀ y ∈ ys, f x y = 0 → x = y) → lex f xs ys = 0 → xs = ys
  | [], [], _, _ => rfl
  | [], _ :: _, _, h => by simp [lex] at h
  | _ :: _, [], _, h => by simp [lex] at h
  | x :: xs, y :: ys, k, h => by
    rw [lex, andC_eq] at h
    rw [k x (by simp) y (by simp) h.1, lex_eq (fun a ha b hb => k a (by simp [ha]) b (by simp [hb])) h.2]
set_option maxRecDepth 100000 in
theorem sg_self (a : Int) : sg a a = 0 := sg_eq.2 rfl
set_option maxRecDepth 100000 in
theorem lex_self {α : Type} {f : α → α → Int} : ∀ {xs : List α}, (∀ x ∈ xs, f x x = 0) → lex f xs xs = 0
  | [], _ => rfl
  | x :: xs, h => by rw [lex, andC_eq]; exact ⟨h x (by simp), lex_self fun a ha => h a (by simp [ha])⟩
end Od
end Go.Proofs.Ytbhmkdbdhojmcaa

namespace Go.Proofs.Ytbhmkdbdhojmcaa
open Go.RowKit
open Od

/-- A kind's class. -/
def cls (k : Int) : Int := if k = 1 ∨ k = 2 ∨ k = 3 then 1 else if k = 4 then 2 else if k = 5 then 3 else if k = 6 then 4 else if k = 7 then 5 else if k = 8 then 6 else if k = 9 then 7 else 0
/-- A number's key: where it stands among all: an integer just below the floats from it on. -/
noncomputable def zkey (z : Int) : List Int := [0, z, 0, 0]
noncomputable def fkey (b : Nat) : List Int := if Fl.nanB b then [1, 0, 0, 0] else [0, Fl.flr b, 1, keyZ b]
/-- What stands in a term beside its arguments. -/
noncomputable def Tm.leafKey (t : Tm) : List Int :=
  if t.kind = 1 then zkey t.num else if t.kind = 2 then zkey (sgn t.neg (Lm.val t.mag)) else if t.kind = 3 then fkey t.bits.toNat
  else if t.kind = 4 ∨ t.kind = 5 then [t.num] else if t.kind = 9 then t.bytes.toList.map (fun x => (x.toNat : Int)) else []
mutual
/-- How two terms stand. -/
noncomputable def Tm.cmpT : Tm → Tm → Int
  | .mk k n g l u s ks, b => andC (sg (cls k) (cls b.kind)) (andC (lex sg (Tm.leafKey (.mk k n g l u s ks)) b.leafKey) (andC (sg ks.length b.args.length) (Tm.lexT ks b.args)))
noncomputable def Tm.lexT : List Tm → List Tm → Int
  | [], [] => 0
  | [], _ :: _ => -1
  | _ :: _, [] => 1
  | x :: xs, y :: ys => andC (Tm.cmpT x y) (Tm.lexT xs ys)
end
set_option maxRecDepth 100000 in
theorem Tm.lexT_eq : ∀ (xs ys : List Tm), Tm.lexT xs ys = lex Tm.cmpT xs ys
  | [], [] => by rw [Tm.lexT, lex]
  | [], _ :: _ => by rw [Tm.lexT, lex]
  | _ :: _, [] => by rw [Tm.lexT, lex]
  | x :: xs, y :: ys => by rw [Tm.lexT, lex, Tm.lexT_eq xs ys]
set_option maxRecDepth 100000 in
theorem Tm.cmpT_eq (a b : Tm) : Tm.cmpT a b = andC (sg (cls a.kind) (cls b.kind)) (andC (lex sg a.leafKey b.leafKey) (andC (sg a.args.length b.args.length) (lex Tm.cmpT a.args b.args))) := by
  cases a
  rw [Tm.cmpT, Tm.lexT_eq]
  rfl

set_option maxRecDepth 100000 in
theorem Tm.cmpT_tri (a : Tm) : ∀ b, Tri (Tm.cmpT a b) := by
  induction a using Tm.ind with
  | h k n g l u s ks ih =>
    intro b
    rw [Tm.cmpT_eq]
    exact andC_tri (sg_tri _ _) (andC_tri (lex_tri fun _ _ _ _ => sg_tri _ _) (andC_tri (sg_tri _ _) (lex_tri fun x hx y _ => ih x hx y)))
set_option maxRecDepth 100000 in
theorem Tm.cmpT_anti (a : Tm) : ∀ b, Tm.cmpT b a = -Tm.cmpT a b := by
  induction a using Tm.ind with
  | h k n g l u s ks ih =>
    intro b
    rw [Tm.cmpT_eq, Tm.cmpT_eq]
    exact andC_anti (sg_anti _ _) (andC_anti (lex_anti fun _ _ _ _ => sg_anti _ _) (andC_anti (sg_anti _ _) (lex_anti fun x hx y _ => ih x hx y)))
set_option maxRecDepth 100000 in
theorem Tm.cmpT_alo (a : Tm) : ∀ b c, Alo (Tm.cmpT a b) (Tm.cmpT b c) (Tm.cmpT a c) := by
  induction a using Tm.ind with
  | h k n g l u s ks ih =>
    intro b c
    rw [Tm.cmpT_eq, Tm.cmpT_eq b c, Tm.cmpT_eq _ c]
    exact andC_alo (sg_alo _ _ _) (andC_alo (lex_alo fun _ _ _ _ _ _ => sg_alo _ _ _) (andC_alo (sg_alo _ _ _) (lex_alo fun x hx y _ z _ => ih x hx y z)))
set_option maxRecDepth 100000 in
theorem Tm.cmpT_self (a : Tm) : Tm.cmpT a a = 0 := by
  have := Tm.cmpT_anti a a
  omega

set_option maxRecDepth 100000 in
/-! ### Numbers by their keys -/
theorem cmpZ_sg (a b : Int) : cmpZ a b = sg a b := rfl
set_option maxRecDepth 100000 in
theorem zkey_z (z y : Int) : lex sg (zkey z) (zkey y) = cmpZ z y := by
  simp only [zkey, lex, sg_self, andC, if_true, cmpZ_sg]
  split
  · next h => exact h.symm
  · rfl
set_option maxRecDepth 100000 in
theorem ord_flr {a b : Nat} (h : Fl.si a ≤ Fl.si b) : Fl.flr a ≤ Fl.flr b := by
  have h1 := Fl.sv_lt_iff b a
  have h2 : Fl.sv a ≤ Fl.sv b := by omega
  exact Int.ediv_le_ediv (by have := Fl.U_pos; omega) h2
set_option maxRecDepth 100000 in
theorem zkey_f (z : Int) (b : Nat) : lex sg (zkey z) (fkey b) = cmpNumZ z b := by
  unfold fkey cmpNumZ
  cases Fl.nanB b with
  | true =>
    rw [if_pos rfl, if_pos rfl]
    simp [zkey, lex, andC, sg]
  | false =>
    rw [if_neg (by decide), if_neg (by decide)]
    simp only [zkey, lex, sg_self, andC, if_true]
    by_cases h : Fl.flr b < z
    · rw [if_pos h]
      have e : sg z (Fl.flr b) = 1 := by unfold sg; rw [if_neg (by omega), if_pos h]
      rw [e]; rfl
    · rw [if_neg h]
      by_cases h2 : z < Fl.flr b
      · have e : sg z (Fl.flr b) = -1 := by unfold sg; rw [if_pos h2]
        rw [e]; rfl
      · have e : sg z (Fl.flr b) = 0 := sg_eq.2 (by omega)
        rw [e]; rfl
set_option maxRecDepth 100000 in
theorem fkey_z (a : Nat) (y : Int) : lex sg (fkey a) (zkey y) = -cmpNumZ y a := by
  rw [← zkey_f, lex_anti fun _ _ _ _ => sg_anti _ _]
set_option maxRecDepth 100000 in
theorem key_si {a b : Nat} (ha : Fl.nanB a = false) (hb : Fl.nanB b = false) (h : keyZ a ≤ keyZ b) : Fl.si a ≤ Fl.si b := by
  rw [keyZ_num ha, keyZ_num hb] at h
  have key := fun h => @key_mono b a h
  by_cases hlt : Fl.si b < Fl.si a
  · have := key hlt; omega
  · omega
set_option maxRecDepth 100000 in
theorem fkey_f (a b : Nat) : lex sg (fkey a) (fkey b) = cmpN a b := by
  unfold fkey cmpN
  cases na : Fl.nanB a with
  | true =>
    cases nb : Fl.nanB b with
    | true => simp [keyZ_nan na, keyZ_nan nb, lex, andC, sg]
    | false =>
      have h := keyZ_lt nb
      rw [if_pos rfl, if_neg (by decide), keyZ_nan na, if_neg (by omega), if_pos h]
      simp [lex, andC, sg]
  | false =>
    cases nb : Fl.nanB b with
    | true =>
      have h := keyZ_lt na
      rw [if_pos rfl, if_neg (by decide), keyZ_nan nb, if_pos h]
      simp [lex, andC, sg]
    | false =>
      rw [if_neg (by decide), if_neg (by decide)]
      simp only [lex, sg_self, andC, if_true]
      by_cases h1 : keyZ a < keyZ b
      · have hf := ord_flr (key_si na nb (by omega))
        rw [if_pos h1]
        have e : sg (keyZ a) (keyZ b) = -1 := by unfold sg; rw [if_pos h1]
        rw [e]
        by_cases h2 : Fl.flr a = Fl.flr b
        · rw [sg_eq.2 h2]; rfl
        · have e2 : sg (Fl.flr a) (Fl.flr b) = -1 := by unfold sg; rw [if_pos (by omega)]
          rw [e2]; rfl
      · rw [if_neg h1]
        by_cases h3 : keyZ b < keyZ a
        · have hf := ord_flr (key_si nb na (by omega))
          rw [if_pos h3]
          have e : sg (keyZ a) (keyZ b) = 1 := by unfold sg; rw [if_neg h1, if_pos h3]
          rw [e]
          by_cases h2 : Fl.flr a = Fl.flr b
          · rw [sg_eq.2 h2]; rfl
          · have e2 : sg (Fl.flr a) (Fl.flr b) = 1 := by unfold sg; rw [if_neg (by omega), if_pos (by omega)]
            rw [e2]; rfl
        · have hf := ord_flr (key_si na nb (by omega))
          have hf' := ord_flr (key_si nb na (by omega))
          rw [if_neg h3, sg_eq.2 (show Fl.flr a = Fl.flr b by omega), sg_eq.2 (show keyZ a = keyZ b by omega)]
          rfl

set_option maxRecDepth 100000 in
/-! ### Bytes by their keys -/
theorem u8_lt {a b : UInt8} : a < b ↔ a.toNat < b.toNat := UInt8.lt_iff_toNat_lt
set_option maxRecDepth 100000 in
theorem bytes_sg : ∀ (x y : List UInt8), lex sg (x.map fun v => (v.toNat : Int)) (y.map fun v => (v.toNat : Int)) = if Op.bytesLess x y then -1 else if Op.bytesLess y x then 1 else 0
  | [], [] => by simp [lex, Op.bytesLess]
  | [], _ :: _ => by simp [lex, Op.bytesLess]
  | _ :: _, [] => by simp [lex, Op.bytesLess]
  | a :: x, b :: y => by
    have ih := bytes_sg x y
    have e1 : decide (a < b) = decide ((a.toNat : Int) < (b.toNat : Int)) := decide_eq_decide.2 (by rw [u8_lt]; omega)
    have e2 : decide (b < a) = decide ((b.toNat : Int) < (a.toNat : Int)) := decide_eq_decide.2 (by rw [u8_lt]; omega)
    have e3 : (a == b) = decide ((a.toNat : Int) = (b.toNat : Int)) := by
      rw [Bool.eq_iff_iff]
      simp only [beq_iff_eq, decide_eq_true_eq]
      constructor
      · intro h; rw [h]
      · intro h; exact UInt8.toNat_inj.1 (by omega)
    have e4 : (b == a) = decide ((a.toNat : Int) = (b.toNat : Int)) := by rw [← e3, Bool.eq_iff_iff]; simp only [beq_iff_eq]; exact eq_comm
    have l1 : Op.bytesLess (a :: x) (b :: y) = (decide ((a.toNat : Int) < (b.toNat : Int)) || decide ((a.toNat : Int) = (b.toNat : Int)) && Op.bytesLess x y) := by rw [Op.bytesLess, e1, e3]
    have l2 : Op.bytesLess (b :: y) (a :: x) = (decide ((b.toNat : Int) < (a.toNat : Int)) || decide ((a.toNat : Int) = (b.toNat : Int)) && Op.bytesLess y x) := by rw [Op.bytesLess, e2, e4]
    rw [l1, l2, List.map_cons, List.map_cons, lex, ih]
    clear e1 e2 e3 e4 l1 l2 ih
    generalize (a.toNat : Int) = p
    generalize (b.toNat : Int) = q
    generalize Op.bytesLess x y = r
    generalize Op.bytesLess y x = t
    by_cases h1 : p < q
    · have e : sg p q = -1 := by unfold sg; rw [if_pos h1]
      rw [e]; simp [andC, h1]
    · by_cases h2 : q < p
      · have e : sg p q = 1 := by unfold sg; rw [if_neg h1, if_pos h2]
        have : ¬ p = q := by omega
        rw [e]; simp [andC, h1, h2, this]
      · have e : p = q := by omega
        subst e
        rw [sg_self]; simp [andC]
end Go.Proofs.Ytbhmkdbdhojmcaa

namespace Go.Proofs.Ytbhmkdbdhojmcaa
open Go.RowKit
open Od

mutual
/-- All bits and limbs are such as a record can hold. -/
def Tm.Rng : Tm → Prop
  | .mk _ _ _ l u _ ks => U64 u ∧ Lm.Small l ∧ Tm.Rngs ks
def Tm.Rngs : List Tm → Prop
  | [] => True
  | t :: r => Tm.Rng t ∧ Tm.Rngs r
end
set_option maxRecDepth 100000 in
theorem Tm.rngs_iff {ts : List Tm} : Tm.Rngs ts ↔ ∀ t ∈ ts, Tm.Rng t := by
  induction ts with
  | nil => simp [Tm.Rngs]
  | cons t r ih => simp [Tm.Rngs, ih]
set_option maxRecDepth 100000 in
theorem Tm.rng_mk {k n : Int} {g : Bool} {l : List Nat} {u : Int} {s : ByteArray} {ks : List Tm} : Tm.Rng (.mk k n g l u s ks) ↔ U64 u ∧ Lm.Small l ∧ ∀ t ∈ ks, Tm.Rng t := by
  rw [Tm.Rng, Tm.rngs_iff]
set_option maxRecDepth 100000 in
theorem TV.rng {w : World} {r : TR} {t : Tm} (h : TV w r t) : t.Rng := by
  induction h with
  | mk r l ks V hf hm hs hk ih =>
    have h1 := hf.u1
    refine Tm.rng_mk.2 ⟨⟨hf.u0, by omega⟩, hf.lim.2.2.1, fun t ht => ?_⟩
    obtain ⟨i, hi⟩ := List.getElem?_of_mem ht
    exact ih i t hi

set_option maxRecDepth 100000 in
theorem Tm.ment_of {t : Tm} (h : Tm.alikeB t t.ment = true) : t = t.ment := by
  have ha := Tm.ment_args t
  have hl := (Tm.alike_kind h).2
  have hargs : t.args = t.ment.args := by
    rw [ha] at hl ⊢
    split
    · rfl
    · next hk => rw [if_neg hk] at hl; exact List.eq_nil_of_length_eq_zero hl
  unfold Tm.alikeB at h
  simp only [Bool.and_eq_true, beq_iff_eq, decide_eq_true_eq] at h
  obtain ⟨⟨⟨⟨⟨h1, h2⟩, h3⟩, h4⟩, h5⟩, h6, _⟩ := h
  have e : ∀ t : Tm, t = .mk t.kind t.num t.neg t.mag t.bits t.bytes t.args := fun t => by cases t; rfl
  exact (e t).trans (by rw [h1, h2, h3, h4, h5, h6, hargs]; exact (e t.ment).symm)
set_option maxRecDepth 100000 in
theorem Tm.form_ment {t : Tm} (h : t.formB = true) : t = t.ment := by
  rw [Tm.formB_eq, Bool.and_eq_true] at h
  exact Tm.ment_of h.1
set_option maxRecDepth 100000 in
theorem Tm.form_bound {t : Tm} (h : t.formB = true) : t.boundB = true ∧ ∀ x ∈ t.args, x.formB = true := by
  rw [Tm.formB_eq, Bool.and_eq_true, Bool.and_eq_true, Tm.formsB_iff] at h
  exact h.2

set_option maxRecDepth 100000 in
theorem ord_key_inj {a b : Int} (ua : U64 a) (ub : U64 b) (ca : cleanI a = a) (cb : cleanI b = b) (h : keyZ a.toNat = keyZ b.toNat) : a = b := by
  have nan : ∀ x : Int, cleanI x = x → Fl.nanB x.toNat = true → x = (Fl.NAN : Nat) := fun x hx hn => by
    rw [← hx]; unfold cleanI cleanN; rw [if_pos hn]
  cases na : Fl.nanB a.toNat with
  | true =>
    cases nb : Fl.nanB b.toNat with
    | true => rw [nan a ca na, nan b cb nb]
    | false => have := keyZ_lt nb; rw [keyZ_nan na] at h; omega
  | false =>
    cases nb : Fl.nanB b.toNat with
    | true => have := keyZ_lt na; rw [keyZ_nan nb] at h; omega
    | false =>
      have s1 := Fl.split_eq _ ua.nat
      have s2 := Fl.split_eq _ ub.nat
      have h1 := ua.1
      have h2 := ub.1
      unfold keyZ at h
      rw [na, nb] at h
      simp only [Bool.false_eq_true, if_false] at h
      cases g1 : Fl.ng a.toNat <;> cases g2 : Fl.ng b.toNat <;> rw [g1] at s1 h <;> rw [g2] at s2 h <;> simp only [Bool.false_eq_true, if_false, if_true] at s1 s2 h <;> omega
set_option maxRecDepth 100000 in
theorem fkey_inj {a b : Int} (ua : U64 a) (ub : U64 b) (ca : cleanI a = a) (cb : cleanI b = b) (h : fkey a.toNat = fkey b.toNat) : a = b := by
  refine ord_key_inj ua ub ca cb ?_
  unfold fkey at h
  cases na : Fl.nanB a.toNat with
  | true =>
    cases nb : Fl.nanB b.toNat with
    | true => rw [keyZ_nan na, keyZ_nan nb]
    | false => rw [na, nb] at h; simp at h
  | false =>
    cases nb : Fl.nanB b.toNat with
    | true => rw [na, nb] at h; simp at h
    | false => rw [na, nb] at h; simp at h; exact h.2
set_option maxRecDepth 100000 in
theorem fkey_ne_zkey (b : Nat) (z : Int) : fkey b ≠ zkey z := by
  unfold fkey zkey
  split <;> simp
set_option maxRecDepth 100000 in
theorem sgn_inj {g g' : Bool} {l l' : List Nat} (hl : Lm.Small l) (hl' : Lm.Small l') (hm : mayB g l = true) (hm' : mayB g' l' = true) (h : sgn g (Lm.val l) = sgn g' (Lm.val l')) : g = g' ∧ l = l' := by
  have d := Lm.digits_val hl (mayB_canon hm)
  have d' := Lm.digits_val hl' (mayB_canon hm')
  have ev : Lm.val l = Lm.val l' := by rw [← natAbs_sgn g (Lm.val l), h, natAbs_sgn]
  refine ⟨?_, by rw [← d, ← d', ev]⟩
  cases g <;> cases g'
  · rfl
  · have := val_pos_of_neg hm' hl'; simp [sgn] at h; omega
  · have := val_pos_of_neg hm hl; simp [sgn] at h; omega
  · rfl
set_option maxRecDepth 100000 in
theorem map_inj {x y : List UInt8} (h : x.map (fun v => (v.toNat : Int)) = y.map (fun v => (v.toNat : Int))) : x = y :=
  List.map_inj_right (f := fun v : UInt8 => (v.toNat : Int)) (fun a b e => UInt8.toNat_inj.1 (by have e' : ((a.toNat : Nat) : Int) = (b.toNat : Nat) := e; omega)) |>.1 h

set_option maxRecDepth 100000 in
theorem Tm.bound_kind {t : Tm} (h : t.boundB = true) : t.kind = 1 ∨ t.kind = 2 ∨ t.kind = 3 ∨ t.kind = 4 ∨ t.kind = 5 ∨ t.kind = 6 ∨ t.kind = 7 ∨ t.kind = 8 ∨ t.kind = 9 := by
  unfold Tm.boundB at h
  by_cases h1 : t.kind = 1 ∨ t.kind = 2 ∨ t.kind = 3 ∨ t.kind = 4 ∨ t.kind = 5 ∨ t.kind = 6 ∨ t.kind = 7 ∨ t.kind = 8 ∨ t.kind = 9
  · exact h1
  · rw [if_neg (by omega), if_neg (by omega), if_neg (by omega), if_neg (by omega), if_neg (by omega), if_neg (by omega), if_neg (by omega), if_neg (by omega), if_neg (by omega)] at h
    cases h

set_option maxRecDepth 100000 in
theorem small_ne {n : Int} {g g' : Bool} {l l' : List Nat} {u u' : Int} {s s' : ByteArray} {ks ks' : List Tm} {n' : Int} (q1 : Tm.boundB (.mk 1 n g l u s ks) = true) (q2 : Tm.boundB (.mk 2 n' g' l' u' s' ks') = true) : n ≠ sgn g' (Lm.val l') := by
  intro q
  have q1' : smallB n = true := q1
  have q2' : (mayB g' l' && !smOk g' l') = true := q2
  rw [q] at q1'
  unfold smOk at q2'
  rw [q1'] at q2'
  cases hm : mayB g' l' <;> rw [hm] at q2' <;> cases q2'

set_option maxRecDepth 100000 in
set_option maxHeartbeats 2000000 in
/-- Terms that may be, and stand at one place, are one. -/
theorem Tm.cmpT_zero (a : Tm) : ∀ b : Tm, a.formB = true → b.formB = true → a.Rng → b.Rng → Tm.cmpT a b = 0 → a = b := by
  induction a using Tm.ind with
  | h k n g l u s ks ih =>
    intro b fa fb ra rb h
    obtain ⟨k', n', g', l', u', s', ks'⟩ := b
    rw [Tm.cmpT_eq, andC_eq, andC_eq, andC_eq, sg_eq, sg_eq] at h
    obtain ⟨hc, hk, hl, hx⟩ := h
    have hkey := lex_eq (fun x _ y _ e => sg_eq.1 e) hk
    have ma := Tm.form_ment fa
    have mb := Tm.form_ment fb
    obtain ⟨ba, fka⟩ := Tm.form_bound fa
    obtain ⟨bb, fkb⟩ := Tm.form_bound fb
    obtain ⟨ua, la, rka⟩ := Tm.rng_mk.1 ra
    obtain ⟨ub, lb, rkb⟩ := Tm.rng_mk.1 rb
    have hargs : ks = ks' := lex_eq (fun x hx y hy e => ih x hx y (fka x hx) (fkb y hy) (rka x hx) (rkb y hy) e) hx
    subst hargs
    have ka := Tm.bound_kind ba
    have kb := Tm.bound_kind bb
    simp only [Tm.kind] at hc ka kb
    have hkk : k = k' ∨ ((k = 1 ∨ k = 2 ∨ k = 3) ∧ (k' = 1 ∨ k' = 2 ∨ k' = 3)) := by
      rcases ka with rfl | rfl | rfl | rfl | rfl | rfl | rfl | rfl | rfl <;> rcases kb with rfl | rfl | rfl | rfl | rfl | rfl | rfl | rfl | rfl <;> first | (exact .inl rfl) | (exact .inr ⟨by omega, by omega⟩) | (exact absurd hc (by decide))
    by_cases e : k = k'
    · subst e
      rcases ka with rfl | rfl | rfl | rfl | rfl | rfl | rfl | rfl | rfl
      · simp [Tm.ment] at ma mb
        simp [Tm.leafKey, Tm.kind, Tm.num, zkey] at hkey
        obtain ⟨rfl, rfl, rfl, rfl, _⟩ := ma
        obtain ⟨rfl, rfl, rfl, rfl, _⟩ := mb
        rw [hkey]
      · simp [Tm.ment] at ma mb
        simp [Tm.leafKey, Tm.kind, Tm.neg, Tm.mag, zkey] at hkey
        simp [Tm.boundB, Tm.kind, Tm.neg, Tm.mag] at ba bb
        obtain ⟨rfl, rfl, rfl, _⟩ := ma
        obtain ⟨rfl, rfl, rfl, _⟩ := mb
        obtain ⟨rfl, rfl⟩ := sgn_inj la lb ba.1 bb.1 hkey
        rfl
      · simp [Tm.ment] at ma mb
        simp [Tm.leafKey, Tm.kind, Tm.bits] at hkey
        simp [Tm.boundB, Tm.kind, Tm.bits] at ba bb
        obtain ⟨rfl, rfl, rfl, rfl, _⟩ := ma
        obtain ⟨rfl, rfl, rfl, rfl, _⟩ := mb
        rw [fkey_inj ua ub ba bb hkey]
      · simp [Tm.ment] at ma mb
        simp [Tm.leafKey, Tm.kind, Tm.num] at hkey
        obtain ⟨rfl, rfl, rfl, rfl, _⟩ := ma
        obtain ⟨rfl, rfl, rfl, rfl, _⟩ := mb
        rw [hkey]
      · simp [Tm.ment] at ma mb
        simp [Tm.leafKey, Tm.kind, Tm.num] at hkey
        obtain ⟨rfl, rfl, rfl, rfl, _⟩ := ma
        obtain ⟨rfl, rfl, rfl, rfl, _⟩ := mb
        rw [hkey]
      · simp [Tm.ment] at ma mb
        obtain ⟨rfl, rfl, rfl, rfl, rfl⟩ := ma
        obtain ⟨rfl, rfl, rfl, rfl, rfl⟩ := mb
        rfl
      · simp [Tm.ment] at ma mb
        obtain ⟨rfl, rfl, rfl, rfl, rfl, _⟩ := ma
        obtain ⟨rfl, rfl, rfl, rfl, rfl, _⟩ := mb
        rfl
      · simp [Tm.ment] at ma mb
        obtain ⟨rfl, rfl, rfl, rfl, rfl⟩ := ma
        obtain ⟨rfl, rfl, rfl, rfl, rfl⟩ := mb
        rfl
      · simp [Tm.ment] at ma mb
        simp [Tm.leafKey, Tm.kind, Tm.bytes] at hkey
        obtain ⟨rfl, rfl, rfl, rfl, _⟩ := ma
        obtain ⟨rfl, rfl, rfl, rfl, _⟩ := mb
        have hs : s = s' := Classical.byContradiction fun hn => toList_ne hn (map_inj hkey)
        rw [hs]
    · exfalso
      obtain ⟨h1, h2⟩ := hkk.resolve_left e
      rcases h1 with rfl | rfl | rfl <;> rcases h2 with rfl | rfl | rfl
      · exact e rfl
      · simp [Tm.leafKey, Tm.kind, Tm.num, Tm.neg, Tm.mag, zkey] at hkey
        exact small_ne ba bb hkey
      · simp [Tm.leafKey, Tm.kind, Tm.num, Tm.bits] at hkey
        exact fkey_ne_zkey _ _ hkey.symm
      · simp [Tm.leafKey, Tm.kind, Tm.num, Tm.neg, Tm.mag, zkey] at hkey
        exact small_ne bb ba hkey.symm
      · exact e rfl
      · simp [Tm.leafKey, Tm.kind, Tm.neg, Tm.mag, Tm.bits] at hkey
        exact fkey_ne_zkey _ _ hkey.symm
      · simp [Tm.leafKey, Tm.kind, Tm.num, Tm.bits] at hkey
        exact fkey_ne_zkey _ _ hkey
      · simp [Tm.leafKey, Tm.kind, Tm.neg, Tm.mag, Tm.bits] at hkey
        exact fkey_ne_zkey _ _ hkey
      · exact e rfl
end Go.Proofs.Ytbhmkdbdhojmcaa

namespace Go.Proofs.Ytbhmkdbdhojmcaa
open Go.RowKit
open Od

set_option maxRecDepth 100000 in
theorem class_any (k : Int) (w : World) : Calls Try.prog 45 #[.int .i64 k] w fun e w' => e = .returned (.int .i64 (cls k)) ∧ w = w' := by
  obtain ⟨R, hR⟩ : ∃ R, R = cls k := ⟨_, rfl⟩
  rw [← hR]
  have HR := Lib.hid hR
  clear hR
  by_cases hk : k = 1 ∨ k = 2 ∨ k = 3 ∨ k = 4 ∨ k = 5 ∨ k = 6 ∨ k = 7 ∨ k = 8 ∨ k = 9
  · rcases hk with rfl | rfl | rfl | rfl | rfl | rfl | rfl | rfl | rfl
    all_goals
      go_enter Try.func45, Try.ntmps45
      go_wp2
      go_ret
      exact ⟨by rw [HR.out]; rfl, rfl⟩
  · have hfin := Lib.hid (show R = 0 by
      rw [HR.out]
      unfold cls
      rw [if_neg (by omega), if_neg (by omega), if_neg (by omega), if_neg (by omega), if_neg (by omega), if_neg (by omega), if_neg (by omega)])
    clear HR
    have e1 : (k == 1) = false := beq_eq_false_iff_ne.2 (by omega)
    have e2 : (k == 2) = false := beq_eq_false_iff_ne.2 (by omega)
    have e3 : (k == 3) = false := beq_eq_false_iff_ne.2 (by omega)
    have e4 : (k == 4) = false := beq_eq_false_iff_ne.2 (by omega)
    have e5 : (k == 5) = false := beq_eq_false_iff_ne.2 (by omega)
    have e6 : (k == 6) = false := beq_eq_false_iff_ne.2 (by omega)
    have e7 : (k == 7) = false := beq_eq_false_iff_ne.2 (by omega)
    have e8 : (k == 8) = false := beq_eq_false_iff_ne.2 (by omega)
    have e9 : (k == 9) = false := beq_eq_false_iff_ne.2 (by omega)
    clear hk
    go_enter Try.func45, Try.ntmps45
    go_wp2
    go_ret
    exact ⟨by rw [hfin.out]; rfl, rfl⟩

set_option maxRecDepth 100000 in
theorem compareI (x y : Int) (w : World) : Calls Try.prog 46 #[.int .i64 x, .int .i64 y] w fun e w' => e = .returned (.int .i64 (sg x y)) ∧ w = w' := by
  rcases Int.lt_trichotomy x y with h | h | h
  · have fin : Hid (sg x y = -1) := Lib.hid (by unfold sg; rw [if_pos h])
    have hd : decide (x < y) = true := decide_eq_true h
    clear h
    go_enter Try.func46, Try.ntmps46
    go_wp2_with (go_at_call 68; refine (nan_int _ _).mono ?_; rintro e w' ⟨rfl, rfl⟩)
    go_ret
    rw [fin.out]; exact ⟨rfl, rfl⟩
  · subst h
    have fin : Hid (sg x x = 0) := Lib.hid (sg_self x)
    go_enter Try.func46, Try.ntmps46
    go_wp2_with (go_at_call 68; refine (nan_int _ _).mono ?_; rintro e w' ⟨rfl, rfl⟩)
    go_ret
    rw [fin.out]; exact ⟨rfl, rfl⟩
  · have fin : Hid (sg x y = 1) := Lib.hid (by unfold sg; rw [if_neg (by omega), if_pos h])
    have hd : decide (x < y) = false := decide_eq_false (by omega)
    have hd' : decide (y < x) = true := decide_eq_true h
    clear h
    go_enter Try.func46, Try.ntmps46
    go_wp2_with (go_at_call 68; refine (nan_int _ _).mono ?_; rintro e w' ⟨rfl, rfl⟩)
    go_ret
    rw [fin.out]; exact ⟨rfl, rfl⟩

set_option maxRecDepth 100000 in
theorem nan_str (x : ByteArray) (w : World) : Calls Try.prog 73 #[.string x] w fun e w' => e = .returned (.bool false) ∧ w = w' := by
  go_enter Try.func73, Try.ntmps73
  go_wp2
  go_ret
  exact ⟨rfl, rfl⟩

def cmpS (s s' : ByteArray) : Int := if Op.bytesLess s.toList s'.toList then -1 else if Op.bytesLess s'.toList s.toList then 1 else 0
set_option maxRecDepth 100000 in
theorem bl_eq {x y : List UInt8} (h1 : Op.bytesLess x y = false) (h2 : Op.bytesLess y x = false) : x = y :=
  map_inj (lex_eq (fun _ _ _ _ e => sg_eq.1 e) (by rw [bytes_sg, h1, h2]; rfl))
set_option maxRecDepth 100000 in
theorem compareS (s s' : ByteArray) (w : World) : Calls Try.prog 49 #[.string s, .string s'] w fun e w' => e = .returned (.int .i64 (cmpS s s')) ∧ w = w' := by
  obtain ⟨R, hR⟩ : ∃ R, R = cmpS s s' := ⟨_, rfl⟩
  rw [← hR]
  unfold cmpS at hR
  have HR := Lib.hid hR
  clear hR
  cases h1 : Op.bytesLess s.toList s'.toList with
  | true =>
    go_enter Try.func49, Try.ntmps49
    go_wp2_with (go_at_call 73; refine (nan_str _ _).mono ?_; rintro e w' ⟨rfl, rfl⟩)
    go_ret
    exact ⟨by rw [HR.out, h1]; rfl, rfl⟩
  | false =>
    cases h2 : Op.bytesLess s'.toList s.toList with
    | true =>
      have hq : (s.toList == s'.toList) = false := by
        rw [beq_eq_false_iff_ne]
        intro e
        rw [e] at h1 h2
        rw [h1] at h2
        cases h2
      go_enter Try.func49, Try.ntmps49
      go_wp2_with (go_at_call 73; refine (nan_str _ _).mono ?_; rintro e w' ⟨rfl, rfl⟩)
      go_ret
      exact ⟨by rw [HR.out, h1, h2]; rfl, rfl⟩
    | false =>
      have hq : (s.toList == s'.toList) = true := beq_iff_eq.2 (bl_eq h1 h2)
      go_enter Try.func49, Try.ntmps49
      go_wp2_with (go_at_call 73; refine (nan_str _ _).mono ?_; rintro e w' ⟨rfl, rfl⟩)
      go_ret
      exact ⟨by rw [HR.out, h1, h2]; rfl, rfl⟩

/-- The integer that a term stands for. -/
def Tm.zOf (t : Tm) : Int := if t.kind = 1 then t.num else sgn t.neg (Lm.val t.mag)
/-- An integer comes back. -/
def IgP (w : World) (z : Int) (e : Ending) (w' : World) : Prop :=
  ∃ (g : Bool) (A : Option Addr) (n c : Nat) (l : List Nat), e = .returned (.agg #[.bool g, .slice A n c]) ∧ Raw w' A n c l ∧ Hid (mayB g l = true) ∧ Hid (sgn g (Lm.val l) = z) ∧ Below w.heap.size w w'

set_option maxRecDepth 100000 in
set_option maxHeartbeats 1000000 in
theorem integer_big (w : World) (b o : Nat) (r : TR) (h : At7 w b o r) (t : Tm) (ht : TV w r t) (hf : t.boundB = true) (hk : r.k = 2) :
    Calls Try.prog 71 #[.pointer (some ⟨b, o, none⟩)] w (IgP w t.zOf) := by
  have hm : mayB t.neg t.mag = true := by
    unfold Tm.boundB at hf
    rw [ht.kind, hk] at hf
    simp at hf
    exact hf.1
  have hz : t.zOf = sgn t.neg (Lm.val t.mag) := by unfold Tm.zOf; rw [ht.kind, hk]; rfl
  rw [hz, ht.neg]
  rw [ht.neg] at hm
  have HM := Lib.hid hm
  have hlt := h.lt
  have hb0 := (Below.refl w.heap.size w).alloc (Nat.le_refl _) (.cells #[.bool false, .slice none 0 0] 24)
  have h1 := h.below hb0 hlt
  have hx := Box.new w (.bool false) (.slice none 0 0)
  have hW0 : (w.alloc (.cells #[.bool false, .slice none 0 0] 24)).heap.size = w.heap.size + 1 := by simp
  have F := ht.flat
  have hraw : Raw (w.alloc (.cells #[.bool false, .slice none 0 0] 24)) r.A r.ln r.lc t.mag := ⟨F.lim.below hb0, F.cap⟩
  generalize hW : w.alloc (.cells #[.bool false, .slice none 0 0] 24) = W at *
  have y0 := h1.c0
  rw [hk] at y0
  have y2 := h1.c2
  have y3 := h1.c3
  have x0 := hx.c0
  have x1 := hx.c1
  have f0 := hx.f0
  have f1 := hx.f1
  clear h h1 hk hm hz hf
  go_enter Try.func71, Try.ntmps71
  go_wp2
  have hB5 := (hx.set0 (.bool r.g)).set1 (.slice r.A r.ln r.lc)
  have hbl := (hb0.setCell (p := ⟨w.heap.size, 0, none⟩) (by simp) (.bool r.g)).setCell (p := ⟨w.heap.size, 1, none⟩) (by simp) (.slice r.A r.ln r.lc)
  clear x0 x1 f0 f1 hW
  generalize (W.setCell ⟨w.heap.size, 0, none⟩ (.bool r.g)).setCell ⟨w.heap.size, 1, none⟩ (.slice r.A r.ln r.lc) = W5 at *
  have z0 := hB5.c0
  have z1 := hB5.c1
  exact bodyPost_ret (v := .agg #[.bool r.g, .slice r.A r.ln r.lc]) (by simp [results, Try.results71, go_sem, z0, z1]) rfl ⟨_, _, _, _, _, rfl, ⟨F.lim.below hbl, F.cap⟩, HM, Lib.hid rfl, hbl⟩

set_option maxRecDepth 100000 in
set_option maxHeartbeats 1000000 in
theorem integer_int (w : World) (b o : Nat) (r : TR) (h : At7 w b o r) (t : Tm) (ht : TV w r t) (hk : r.k = 1) :
    Calls Try.prog 71 #[.pointer (some ⟨b, o, none⟩)] w (IgP w t.zOf) := by
  have hz : t.zOf = r.n := by unfold Tm.zOf; rw [ht.kind, hk, ht.num]; rfl
  rw [hz]
  have hlt := h.lt
  have hb0 := (Below.refl w.heap.size w).alloc (Nat.le_refl _) (.cells #[.bool false, .slice none 0 0] 24)
  have h1 := h.below hb0 hlt
  have hx := Box.new w (.bool false) (.slice none 0 0)
  have hn0 := ht.flat.n0
  have hn1 := ht.flat.n1
  have y0 := h1.c0
  rw [hk] at y0
  have y1 := h1.c1
  clear h h1 hk hz
  go_enter Try.func71, Try.ntmps71
  go_wp2_with fail
  clear y0 y1
  generalize w.alloc (.cells #[.bool false, .slice none 0 0] 24) = W at *
  refine (of_any W r.n hn0 hn1).mono ?_
  rintro e w1 ⟨_, rfl, ⟨s1, A1, n1, c1, rfl, hs1, ho1⟩, hb⟩
  have hx1 := hx.below' hb
  have x0 := hx1.c0
  have x1 := hx1.c1
  have f0 := hx1.f0
  have f1 := hx1.f1
  go_wp2
  obtain ⟨hB, hNV, hbl⟩ := close_num (base' := W.heap.size) hx1 (Nat.le_refl _) (hb0.trans (hb.mono hb0.size)) hs1 ho1 (Nat.le_refl _)
  generalize (w1.setCell ⟨w.heap.size, 0, none⟩ (.bool s1)).setCell ⟨w.heap.size, 1, none⟩ (.slice A1 n1 c1) = W2 at *
  have hy0 := hB.c0
  have hy1 := hB.c1
  obtain ⟨s', A', n', c', e, hs', ho'⟩ := hNV
  cases e
  have hnm := Nm.of_own hs' ho'
  exact bodyPost_ret (v := .agg #[.bool s1, .slice A1 n1 c1]) (by simp [results, Try.results71, go_sem, hy0, hy1]) rfl ⟨_, _, _, _, _, rfl, hnm.1, Lib.hid (hnm.may (by have := Lm.top_ge; omega)), Lib.hid hnm.eqZ, hbl⟩

set_option maxRecDepth 100000 in
theorem integer_any (w : World) (b o : Nat) (r : TR) (h : At7 w b o r) (t : Tm) (ht : TV w r t) (hf : t.boundB = true) (hk : r.k = 1 ∨ r.k = 2) :
    Calls Try.prog 71 #[.pointer (some ⟨b, o, none⟩)] w (IgP w t.zOf) := by
  rcases hk with hk | hk
  · exact integer_int w b o r h t ht hk
  · exact integer_big w b o r h t ht hf hk

/-- Two records in memory, and the terms that they stand for. -/
structure Two (w : World) (b o : Nat) (r : TR) (t : Tm) (b' o' : Nat) (r' : TR) (t' : Tm) : Prop where
  at1 : At7 w b o r
  at2 : At7 w b' o' r'
  tv1 : TV w r t
  tv2 : TV w r' t'
set_option maxRecDepth 100000 in
theorem Two.below {w w' : World} {b o : Nat} {r : TR} {t : Tm} {b' o' : Nat} {r' : TR} {t' : Tm} (h : Two w b o r t b' o' r' t') (hb : Below w.heap.size w w') : Two w' b o r t b' o' r' t' :=
  ⟨h.at1.below hb h.at1.lt, h.at2.below hb h.at2.lt, h.tv1.bel hb, h.tv2.bel hb⟩

set_option maxRecDepth 100000 in
theorem leafKey_int {t : Tm} (h : t.kind = 1 ∨ t.kind = 2) : t.leafKey = zkey t.zOf := by
  unfold Tm.leafKey Tm.zOf
  rcases h with h | h
  · rw [if_pos h, if_pos h]
  · rw [if_neg (by omega), if_pos h, if_neg (by omega)]
set_option maxRecDepth 100000 in
theorem leafKey_flt {t : Tm} (h : t.kind = 3) : t.leafKey = fkey t.bits.toNat := by
  unfold Tm.leafKey
  rw [if_neg (by omega), if_neg (by omega), if_pos h]
set_option maxRecDepth 100000 in
theorem TV.u64 {w : World} {r : TR} {t : Tm} (h : TV w r t) : U64 r.u := ⟨h.flat.u0, by have := h.flat.u1; omega⟩

set_option maxRecDepth 100000 in
set_option maxHeartbeats 2000000 in
theorem nums_ff (w : World) (b o : Nat) (r : TR) (t : Tm) (b' o' : Nat) (r' : TR) (t' : Tm) (h : Two w b o r t b' o' r' t') (hk : r.k = 3) (hk' : r'.k = 3) :
    Calls Try.prog 47 #[.pointer (some ⟨b, o, none⟩), .pointer (some ⟨b', o', none⟩)] w (IntPost w (lex Od.sg t.leafKey t'.leafKey)) := by
  have fin : lex Od.sg t.leafKey t'.leafKey = cmpI r.u r'.u := by
    rw [leafKey_flt (h.tv1.kind.trans hk), leafKey_flt (h.tv2.kind.trans hk'), fkey_f, h.tv1.bits, h.tv2.bits]
    rfl
  rw [fin]
  have u := h.tv1.u64
  have u' := h.tv2.u64
  have y0 := h.at1.c0
  have y4 := h.at1.c4
  have x0 := h.at2.c0
  have x4 := h.at2.c4
  rw [hk] at y0
  rw [hk'] at x0
  clear h hk hk' fin
  generalize r.u = x at *
  generalize r'.u = y at *
  obtain ⟨R, hR⟩ : ∃ R, R = cmpI x y := ⟨_, rfl⟩
  rw [← hR]
  have HR := Lib.hid hR
  clear hR
  go_enter Try.func47, Try.ntmps47
  go_wp2_with fail
  go_quiet ((go_at_call 69; exact Calls.quiet_of_same ((fCmp_any _ _ _ u u').mono fun _ _ h => ⟨h.1, h.2.symm⟩)))
  go_wp2
  go_ret
  exact ⟨by rw [HR.out]; rfl, (Below.refl _ _).drewN' _⟩
end Go.Proofs.Ytbhmkdbdhojmcaa

namespace Go.Proofs.Ytbhmkdbdhojmcaa
open Go.RowKit
open Od

set_option maxRecDepth 100000 in
theorem cmpNumR_of {g : Bool} {l : List Nat} {z : Int} {u : Int} (hm : Hid (mayB g l = true)) (hz : Hid (sgn g (Lm.val l) = z)) : cmpNumR g l u = cmpNumZ z u.toNat := by
  unfold cmpNumR
  rw [hm.out, if_pos rfl, hz.out]
set_option maxRecDepth 100000 in
theorem cmpR_of {g g' : Bool} {l l' : List Nat} {z z' : Int} (hm : Hid (mayB g l = true)) (hz : Hid (sgn g (Lm.val l) = z)) (hm' : Hid (mayB g' l' = true)) (hz' : Hid (sgn g' (Lm.val l') = z')) : cmpR g g' l l' = cmpZ z z' := by
  unfold cmpR
  rw [hm.out, hm'.out, hz.out, hz'.out]
  rfl
set_option maxRecDepth 100000 in
theorem cmpNumZ_tri (z : Int) (b : Nat) : cmpNumZ z b = 1 ∨ cmpNumZ z b = -1 := by
  unfold cmpNumZ
  split
  · exact .inr rfl
  · split
    · exact .inl rfl
    · exact .inr rfl

set_option maxRecDepth 100000 in
set_option maxHeartbeats 2000000 in
theorem nums_if (w : World) (b o : Nat) (r : TR) (t : Tm) (b' o' : Nat) (r' : TR) (t' : Tm) (h : Two w b o r t b' o' r' t') (hf : t.boundB = true) (hk : r.k = 1 ∨ r.k = 2) (hk' : r'.k = 3) :
    Calls Try.prog 47 #[.pointer (some ⟨b, o, none⟩), .pointer (some ⟨b', o', none⟩)] w (IntPost w (lex Od.sg t.leafKey t'.leafKey)) := by
  have fin : lex Od.sg t.leafKey t'.leafKey = cmpNumZ t.zOf r'.u.toNat := by
    rw [leafKey_int (by rw [h.tv1.kind]; exact hk), leafKey_flt (h.tv2.kind.trans hk'), zkey_f, h.tv2.bits]
  rw [fin]
  have y0 := h.at1.c0
  have x0 := h.at2.c0
  have x4 := h.at2.c4
  have e3 : (r.k == 3) = false := beq_eq_false_iff_ne.2 (by omega)
  rw [hk'] at x0
  have HK := Lib.hid hk
  have HH := Lib.hid h
  clear h hk hk' fin
  obtain ⟨R, hR⟩ : ∃ R, R = cmpNumZ t.zOf r'.u.toNat := ⟨_, rfl⟩
  rw [← hR]
  have HR := Lib.hid hR
  clear hR
  go_enter Try.func47, Try.ntmps47
  go_wp2_with fail
  go_region_with (first
    | (go_at_call 71; refine (integer_any w.drew b o r (by exact (HH.out.below (Below.refl _ _).drew).at1) t (by exact (HH.out.below (Below.refl _ _).drew).tv1) hf HK.out).mono ?_; rintro e v ⟨g, A, n, c, l, rfl, hraw, hm, hz, hv⟩; have H2 := Lib.hid ((HH.out.below (Below.refl _ _).drew).below hv); clear y0 x0 x4; have x4 := H2.out.at2.c4)
    | (go_at_call 70; refine (cmpNum_any _ g A n c l hraw _).mono ?_; rw [cmpNumR_of hm hz, ← HR.out]; rintro e v2 ⟨rfl, hv2⟩))
  all_goals
    go_wp2
    go_ret
    exact ⟨rfl, ((Below.refl w.heap.size w).drew.trans hv).trans (hv2.mono hv.size)⟩

set_option maxRecDepth 100000 in
set_option maxHeartbeats 2000000 in
theorem nums_fi (w : World) (b o : Nat) (r : TR) (t : Tm) (b' o' : Nat) (r' : TR) (t' : Tm) (h : Two w b o r t b' o' r' t') (hf' : t'.boundB = true) (hk : r.k = 3) (hk' : r'.k = 1 ∨ r'.k = 2) :
    Calls Try.prog 47 #[.pointer (some ⟨b, o, none⟩), .pointer (some ⟨b', o', none⟩)] w (IntPost w (lex Od.sg t.leafKey t'.leafKey)) := by
  have fin : lex Od.sg t.leafKey t'.leafKey = -cmpNumZ t'.zOf r.u.toNat := by
    rw [leafKey_int (t := t') (by rw [h.tv2.kind]; exact hk'), leafKey_flt (h.tv1.kind.trans hk), fkey_z, h.tv1.bits]
  rw [fin]
  have y0 := h.at1.c0
  have x0 := h.at2.c0
  have y4 := h.at1.c4
  have e3 : (r'.k == 3) = false := beq_eq_false_iff_ne.2 (by omega)
  rw [hk] at y0
  have HK := Lib.hid hk'
  have HH := Lib.hid h
  clear h hk hk' fin
  have ht := cmpNumZ_tri t'.zOf r.u.toNat
  obtain ⟨R, hR⟩ : ∃ R, R = cmpNumZ t'.zOf r.u.toNat := ⟨_, rfl⟩
  rw [← hR] at ht ⊢
  have HR := Lib.hid hR
  clear hR
  have e1 : IntKind.i64.wrap (-R) = -R := by rcases ht with rfl | rfl <;> rfl
  go_enter Try.func47, Try.ntmps47
  go_wp2_with fail
  go_region_with (first
    | (go_at_call 71; refine (integer_any w.drew b' o' r' (by exact (HH.out.below (Below.refl _ _).drew).at2) t' (by exact (HH.out.below (Below.refl _ _).drew).tv2) hf' HK.out).mono ?_; rintro e v ⟨g, A, n, c, l, rfl, hraw, hm, hz, hv⟩; have H2 := Lib.hid ((HH.out.below (Below.refl _ _).drew).below hv); clear y0 x0 y4; have y4 := H2.out.at1.c4)
    | (go_at_call 70; refine (cmpNum_any _ g A n c l hraw _).mono ?_; rw [cmpNumR_of hm hz, ← HR.out]; rintro e v2 ⟨rfl, hv2⟩))
  all_goals
    go_wp2
    go_ret
    exact ⟨by first | rfl | (rw [← e1]; rfl), ((Below.refl w.heap.size w).drew.trans hv).trans (hv2.mono hv.size)⟩

set_option maxRecDepth 100000 in
set_option maxHeartbeats 2000000 in
theorem nums_11 (w : World) (b o : Nat) (r : TR) (t : Tm) (b' o' : Nat) (r' : TR) (t' : Tm) (h : Two w b o r t b' o' r' t') (hk : r.k = 1) (hk' : r'.k = 1) :
    Calls Try.prog 47 #[.pointer (some ⟨b, o, none⟩), .pointer (some ⟨b', o', none⟩)] w (IntPost w (lex Od.sg t.leafKey t'.leafKey)) := by
  have fin : lex Od.sg t.leafKey t'.leafKey = Od.sg r.n r'.n := by
    rw [leafKey_int (by rw [h.tv1.kind]; exact .inl hk), leafKey_int (by rw [h.tv2.kind]; exact .inl hk'), zkey_z, cmpZ_sg]
    unfold Tm.zOf
    rw [h.tv1.kind, h.tv2.kind, if_pos hk, if_pos hk', h.tv1.num, h.tv2.num]
  rw [fin]
  have y0 := h.at1.c0
  have y1 := h.at1.c1
  have x0 := h.at2.c0
  have x1 := h.at2.c1
  rw [hk] at y0
  rw [hk'] at x0
  clear h hk hk' fin
  generalize r.n = x at *
  generalize r'.n = y at *
  obtain ⟨R, hR⟩ : ∃ R, R = Od.sg x y := ⟨_, rfl⟩
  rw [← hR]
  have HR := Lib.hid hR
  clear hR
  go_enter Try.func47, Try.ntmps47
  go_wp2_with fail
  go_quiet ((go_at_call 46; exact Calls.quiet_of_same ((compareI _ _ _).mono fun _ _ h => ⟨h.1, h.2.symm⟩)))
  go_wp2
  go_ret
  exact ⟨by rw [HR.out]; rfl, (Below.refl _ _).drewN' _⟩

set_option maxRecDepth 100000 in
set_option maxHeartbeats 2000000 in
theorem nums_ii (w : World) (b o : Nat) (r : TR) (t : Tm) (b' o' : Nat) (r' : TR) (t' : Tm) (h : Two w b o r t b' o' r' t') (hf : t.boundB = true) (hf' : t'.boundB = true) (hk : r.k = 1 ∨ r.k = 2) (hk' : r'.k = 1 ∨ r'.k = 2) (hn : ¬ (r.k = 1 ∧ r'.k = 1)) :
    Calls Try.prog 47 #[.pointer (some ⟨b, o, none⟩), .pointer (some ⟨b', o', none⟩)] w (IntPost w (lex Od.sg t.leafKey t'.leafKey)) := by
  have fin : lex Od.sg t.leafKey t'.leafKey = cmpZ t.zOf t'.zOf := by
    rw [leafKey_int (by rw [h.tv1.kind]; exact hk), leafKey_int (by rw [h.tv2.kind]; exact hk'), zkey_z]
  rw [fin]
  have y0 := h.at1.c0
  have x0 := h.at2.c0
  have HK := Lib.hid hk
  have HK' := Lib.hid hk'
  have HH := Lib.hid h
  clear h fin
  obtain ⟨R, hR⟩ : ∃ R, R = cmpZ t.zOf t'.zOf := ⟨_, rfl⟩
  rw [← hR]
  have HR := Lib.hid hR
  clear hR
  rcases hk with e | e <;> rcases hk' with e' | e'
  · exact absurd ⟨e, e'⟩ hn
  all_goals
    rw [e] at y0
    rw [e'] at x0
    clear e e' hn
    go_enter Try.func47, Try.ntmps47
    go_wp2_with fail
    refine (integer_any w b o r HH.out.at1 t HH.out.tv1 hf HK.out).mono ?_
    rintro e v ⟨g, A, n, c, l, rfl, hraw, hm, hz, hv⟩
    have H2 := Lib.hid (HH.out.below hv)
    clear y0 x0
    go_wp2_with fail
    refine (integer_any v b' o' r' H2.out.at2 t' H2.out.tv2 hf' HK'.out).mono ?_
    rintro e v2 ⟨g', A', n', c', l', rfl, hraw', hm', hz', hv2⟩
    go_wp2_with fail
    refine (cmp_raw v2 g g' A A' n c n' c' l l' (hraw.below hv2) hraw').mono ?_
    rw [cmpR_of hm hz hm' hz', ← HR.out]
    rintro e v3 ⟨rfl, hv3⟩
    go_wp2
    go_ret
    exact ⟨rfl, (hv.trans (hv2.mono hv.size)).trans (hv3.mono (Nat.le_trans hv.size hv2.size))⟩
set_option maxRecDepth 100000 in
theorem nums_any (w : World) (b o : Nat) (r : TR) (t : Tm) (b' o' : Nat) (r' : TR) (t' : Tm) (h : Two w b o r t b' o' r' t') (hf : t.boundB = true) (hf' : t'.boundB = true) (hk : r.k = 1 ∨ r.k = 2 ∨ r.k = 3) (hk' : r'.k = 1 ∨ r'.k = 2 ∨ r'.k = 3) :
    Calls Try.prog 47 #[.pointer (some ⟨b, o, none⟩), .pointer (some ⟨b', o', none⟩)] w (IntPost w (lex Od.sg t.leafKey t'.leafKey)) := by
  by_cases e : r.k = 3
  · by_cases e' : r'.k = 3
    · exact nums_ff w b o r t b' o' r' t' h e e'
    · exact nums_fi w b o r t b' o' r' t' h hf' e (by omega)
  · by_cases e' : r'.k = 3
    · exact nums_if w b o r t b' o' r' t' h hf (by omega) e'
    · by_cases h1 : r.k = 1 ∧ r'.k = 1
      · exact nums_11 w b o r t b' o' r' t' h h1.1 h1.2
      · exact nums_ii w b o r t b' o' r' t' h hf hf' (by omega) (by omega) h1
end Go.Proofs.Ytbhmkdbdhojmcaa

namespace Go.Proofs.Ytbhmkdbdhojmcaa
open Go.RowKit
open Od

set_option maxRecDepth 100000 in
theorem lex_take {α : Type} {f : α → α → Int} : ∀ {xs ys : List α} {j : Nat} {a b : α}, (∀ x u v, x < j → xs[x]? = some u → ys[x]? = some v → f u v = 0) → xs[j]? = some a → ys[j]? = some b → f a b ≠ 0 → lex f xs ys = f a b
  | [], _, _, _, _, _, h, _, _ => by simp at h
  | _ :: _, [], _, _, _, _, _, h, _ => by simp at h
  | x :: xs, y :: ys, 0, a, b, _, h1, h2, hn => by
    simp at h1 h2
    subst h1 h2
    rw [lex, andC, if_neg hn]
  | x :: xs, y :: ys, j + 1, a, b, h, h1, h2, hn => by
    simp at h1 h2
    rw [lex, h 0 x y (by omega) rfl rfl, andC, if_pos rfl]
    exact lex_take (fun i u v hi e1 e2 => h (i + 1) u v (by omega) (by simpa using e1) (by simpa using e2)) h1 h2 hn
set_option maxRecDepth 100000 in
theorem lex_all {α : Type} {f : α → α → Int} : ∀ {xs ys : List α}, xs.length = ys.length → (∀ (x : Nat) (u v : α), xs[x]? = some u → ys[x]? = some v → f u v = 0) → lex f xs ys = 0
  | [], [], _, _ => rfl
  | [], _ :: _, h, _ => by simp at h
  | _ :: _, [], h, _ => by simp at h
  | x :: xs, y :: ys, hl, h => by
    rw [lex, h 0 x y rfl rfl, andC, if_pos rfl]
    exact lex_all (by simpa using hl) (fun i u v e1 e2 => h (i + 1) u v (by simpa using e1) (by simpa using e2))

/-- How rows of arguments stand. -/
noncomputable def cmpArgs (xs ys : List Tm) : Int := andC (Od.sg xs.length ys.length) (lex Tm.cmpT xs ys)

set_option maxRecDepth 100000 in
set_option maxHeartbeats 4000000 in
theorem compareArgs_of (ts : List Tm) (ih : ∀ t ∈ ts, ∀ (w : World) (b o : Nat) (r : TR) (b' o' : Nat) (r' : TR) (t' : Tm), Two w b o r t b' o' r' t' → t.formB = true → t'.formB = true → Calls Try.prog 30 #[.pointer (some ⟨b, o, none⟩), .pointer (some ⟨b', o', none⟩)] w (IntPost w (Tm.cmpT t t')))
    (ts' : List Tm) (hf : ∀ t ∈ ts, t.formB = true) (hf' : ∀ t ∈ ts', t.formB = true) (w : World) (B : Option Addr) (m d : Nat) (h : TVs w B m d ts) (B' : Option Addr) (m' d' : Nat) (h' : TVs w B' m' d' ts') :
    Calls Try.prog 48 #[.slice B m d, .slice B' m' d'] w (IntPost w (cmpArgs ts ts')) := by
  obtain ⟨R, hR⟩ : ∃ R, R = cmpArgs ts ts' := ⟨_, rfl⟩
  rw [← hR]
  unfold cmpArgs at hR
  rw [h.len, h'.len] at hR
  have HR := Lib.hid hR
  have IH := Lib.hid ih
  have HF := Lib.hid hf
  have HF' := Lib.hid hf'
  clear hR ih hf hf'
  have hml : m ≤ maxLen := Nat.le_trans h.md h.dd
  have hml' : (m : Int) ≤ 9223372036854775807 := by unfold maxLen at hml; omega
  by_cases hm : m = m'
  · subst hm
    have hcase := Lib.hid (show R = lex Tm.cmpT ts ts' by rw [HR.out, sg_self]; rfl)
    clear HR
    have HH := Lib.hid h
    have HH' := Lib.hid h'
    have HL := Lib.hid (h.len.trans h'.len.symm)
    clear h h'
    go_enter Try.func48, Try.ntmps48
    go_wp2_with fail
    go_loopw [19] (fun i w' => ∃ j : Nat, j ≤ m ∧ i = .int .i64 (j : Int) ∧ Hid (∀ (x : Nat) (a b : Tm), x < j → ts[x]? = some a → ts'[x]? = some b → Tm.cmpT a b = 0) ∧ Below w.heap.size w w') (fun i _ => m - (intOf i).toNat)
    case atStart => exact ⟨0, Nat.zero_le _, rfl, Lib.hid (fun x a b h => absurd h (by omega)), Below.refl _ _⟩
    case round =>
      obtain ⟨j, hj, rfl, hz, hb⟩ := hrel
      by_cases hjm : j < m
      · have hd1 : decide ((j : Int) < (m : Int)) = true := by rw [decide_eq_true_iff]; omega
        obtain ⟨b, o, ra, ta, e, hlt, h7, het, htv⟩ := (HH.out.below hb).get j hjm
        obtain ⟨b', o', rb, tb, e', hlt', h7', het', htv'⟩ := (HH'.out.below hb).get j hjm
        subst e e'
        have HT := Lib.hid (show Two wr.drew b (o + j * 7) ra ta b' (o' + j * 7) rb tb from Two.below ⟨h7, h7', htv, htv'⟩ (Below.refl _ _).drew)
        clear h7 h7' htv htv'
        have IA := Lib.hid (IH.out ta (List.mem_of_getElem? het))
        have fa := HF.out ta (List.mem_of_getElem? het)
        have fb := HF'.out tb (List.mem_of_getElem? het')
        obtain ⟨q, hq⟩ : ∃ q, q = Tm.cmpT ta tb := ⟨_, rfl⟩
        have HQ := Lib.hid hq
        clear hq
        go_wp2_with fail
        go_region_with (first
          | (go_at_call 30; refine (IA.out wr.drew b (o + j * 7) ra b' (o' + j * 7) rb tb HT.out fa fb).mono ?_; rw [← HQ.out]; rintro e v ⟨rfl, hv⟩))
        all_goals
          by_cases h0 : q = 0
          · subst h0
            have hst := Lib.hid (show ∀ (x : Nat) (a b : Tm), x < j + 1 → ts[x]? = some a → ts'[x]? = some b → Tm.cmpT a b = 0 from fun x a b h1 h2 h3 => by
              by_cases e : x = j
              · subst e
                rw [het] at h2
                rw [het'] at h3
                cases h2
                cases h3
                exact HQ.out.symm
              · exact hz.out x a b (by omega) h2 h3)
            go_wp2_with fail
            exact ⟨⟨j + 1, by omega, by go_num, hst, hb.trans ((((Below.refl _ _).drew).trans hv).mono hb.size)⟩, by simp [intOf]; omega⟩
          · have hfi := Lib.hid (show R = q by
              rw [hcase.out, HQ.out]
              rw [HQ.out] at h0
              exact lex_take (fun x u v hx e1 e2 => hz.out x u v hx e1 e2) het het' h0)
            have hd2 : (q != 0) = true := by rw [bne_iff_ne]; exact h0
            clear h0
            go_wp2
            go_ret
            exact ⟨by rw [hfi.out]; rfl, hb.trans ((((Below.refl _ _).drew).trans hv).mono hb.size)⟩
      · have hd1 : decide ((j : Int) < (m : Int)) = false := by rw [decide_eq_false_iff_not]; omega
        have hfi := Lib.hid (show R = 0 by
          rw [hcase.out]
          refine lex_all HL.out (fun x u v e1 e2 => hz.out x u v ?_ e1 e2)
          have := (List.getElem?_eq_some_iff.1 e1).1
          rw [HH.out.len] at this
          omega)
        go_wp2
        go_ret
        exact ⟨by rw [hfi.out]; rfl, hb⟩
  · have hfi := Lib.hid (show R = Od.sg (m : Int) (m' : Int) by
      rw [HR.out, andC, if_neg]
      rw [sg_eq]
      omega)
    have hd : ((m : Int) != (m' : Int)) = true := by rw [bne_iff_ne]; omega
    clear HR
    go_enter Try.func48, Try.ntmps48
    go_wp2_with fail
    refine (compareI _ _ w).mono ?_
    rw [← hfi.out]
    rintro e w1 ⟨rfl, rfl⟩
    go_wp2
    go_ret
    exact ⟨rfl, Below.refl _ _⟩
set_option maxRecDepth 100000 in
theorem andC_zero (x : Int) : andC x 0 = x := by
  unfold andC
  split
  · next h => exact h.symm
  · rfl
set_option maxRecDepth 100000 in
theorem Tm.form_args {t : Tm} (h : t.formB = true) (hk : ¬ (t.kind = 6 ∨ t.kind = 8)) : t.args = [] := by
  rw [Tm.form_ment h, Tm.ment_args, if_neg hk]
set_option maxRecDepth 100000 in
theorem cmpT_cls {a b : Tm} (h : cls a.kind ≠ cls b.kind) : Tm.cmpT a b = Od.sg (cls a.kind) (cls b.kind) := by
  rw [Tm.cmpT_eq, andC, if_neg]
  rw [sg_eq]
  exact h
set_option maxRecDepth 100000 in
theorem cmpT_leaf {a b : Tm} (hc : cls a.kind = cls b.kind) (ha : a.args = []) (hb : b.args = []) : Tm.cmpT a b = lex Od.sg a.leafKey b.leafKey := by
  rw [Tm.cmpT_eq, hc, sg_self, andC, if_pos rfl, ha, hb]
  exact andC_zero _
set_option maxRecDepth 100000 in
theorem cmpT_node {a b : Tm} (hk : a.kind = b.kind) (h : a.kind = 6 ∨ a.kind = 8) : Tm.cmpT a b = cmpArgs a.args b.args := by
  have ka : a.leafKey = [] := by unfold Tm.leafKey; rw [if_neg (by omega), if_neg (by omega), if_neg (by omega), if_neg (by omega), if_neg (by omega)]
  have kb : b.leafKey = [] := by unfold Tm.leafKey; rw [if_neg (by omega), if_neg (by omega), if_neg (by omega), if_neg (by omega), if_neg (by omega)]
  rw [Tm.cmpT_eq, hk, sg_self, andC, if_pos rfl, ka, kb]
  rfl
set_option maxRecDepth 100000 in
theorem leafKey_n {t : Tm} (h : t.kind = 4 ∨ t.kind = 5) : t.leafKey = [t.num] := by
  unfold Tm.leafKey; rw [if_neg (by omega), if_neg (by omega), if_neg (by omega), if_pos h]
set_option maxRecDepth 100000 in
theorem leafKey_s {t : Tm} (h : t.kind = 9) : t.leafKey = t.bytes.toList.map (fun x => (x.toNat : Int)) := by
  unfold Tm.leafKey; rw [if_neg (by omega), if_neg (by omega), if_neg (by omega), if_neg (by omega), if_pos h]
set_option maxRecDepth 100000 in
theorem leafKey_o {t : Tm} (h : t.kind = 7) : t.leafKey = [] := by
  unfold Tm.leafKey; rw [if_neg (by omega), if_neg (by omega), if_neg (by omega), if_neg (by omega), if_neg (by omega)]
set_option maxRecDepth 100000 in
theorem cls_one {k k' : Int} (h : cls k = cls k') (hk : k = 1 ∨ k = 2 ∨ k = 3 ∨ k = 4 ∨ k = 5 ∨ k = 6 ∨ k = 7 ∨ k = 8 ∨ k = 9) (hk' : k' = 1 ∨ k' = 2 ∨ k' = 3 ∨ k' = 4 ∨ k' = 5 ∨ k' = 6 ∨ k' = 7 ∨ k' = 8 ∨ k' = 9) : k = k' ∨ ((k = 1 ∨ k = 2 ∨ k = 3) ∧ (k' = 1 ∨ k' = 2 ∨ k' = 3)) := by
  rcases hk with rfl | rfl | rfl | rfl | rfl | rfl | rfl | rfl | rfl <;> rcases hk' with rfl | rfl | rfl | rfl | rfl | rfl | rfl | rfl | rfl <;> first | (exact .inl rfl) | (exact .inr ⟨by omega, by omega⟩) | (exact absurd h (by decide))

set_option maxRecDepth 100000 in
set_option maxHeartbeats 4000000 in
theorem compare_cls (w : World) (b o : Nat) (r : TR) (t : Tm) (b' o' : Nat) (r' : TR) (t' : Tm) (h : Two w b o r t b' o' r' t') (hc : cls r.k ≠ cls r'.k) :
    Calls Try.prog 30 #[.pointer (some ⟨b, o, none⟩), .pointer (some ⟨b', o', none⟩)] w (IntPost w (Od.sg (cls r.k) (cls r'.k))) := by
  have y0 := h.at1.c0
  have x0 := h.at2.c0
  clear h
  generalize r.k = k at *
  generalize r'.k = k' at *
  have hd : (cls k != cls k') = true := by rw [bne_iff_ne]; exact hc
  obtain ⟨R, hR⟩ : ∃ R, R = Od.sg (cls k) (cls k') := ⟨_, rfl⟩
  rw [← hR]
  have HR := Lib.hid hR
  clear hR hc
  go_enter Try.func30, Try.ntmps30
  go_wp2_with fail
  go_quiet ((go_at_call 45; exact Calls.quiet_of_same ((class_any _ _).mono fun _ _ h => ⟨h.1, h.2.symm⟩)))
  have y0' : (w.drewN nq).cell? ⟨b, o, none⟩ = some (.int .i64 k) := y0
  have x0' : (w.drewN nq).cell? ⟨b', o', none⟩ = some (.int .i64 k') := x0
  have hb : Below w.heap.size w (w.drewN nq) := (Below.refl _ _).drewN' _
  clear y0 x0
  generalize w.drewN nq = W at *
  go_wp2_with fail
  go_quiet (first
    | (go_at_call 45; exact Calls.quiet_of_same ((class_any _ _).mono fun _ _ h => ⟨h.1, h.2.symm⟩))
    | (go_at_call 46; exact Calls.quiet_of_same ((compareI _ _ _).mono fun _ _ h => ⟨h.1, h.2.symm⟩)))
  go_wp2
  go_ret
  exact ⟨by rw [HR.out]; rfl, hb.drewN' _⟩

set_option maxRecDepth 100000 in
set_option maxHeartbeats 4000000 in
theorem compare_k1 (w : World) (b o : Nat) (r : TR) (t : Tm) (b' o' : Nat) (r' : TR) (t' : Tm) (h : Two w b o r t b' o' r' t') (hc : cls r.k = cls r'.k) (hk : r.k = 1) (hf : t.boundB = true) (hf' : t'.boundB = true) (hk' : r'.k = 1 ∨ r'.k = 2 ∨ r'.k = 3) :
    Calls Try.prog 30 #[.pointer (some ⟨b, o, none⟩), .pointer (some ⟨b', o', none⟩)] w (IntPost w (lex Od.sg t.leafKey t'.leafKey)) := by
  have y0 := h.at1.c0
  have x0 := h.at2.c0
  have e1 : (r.k == 1) = true := by rw [hk]; rfl
  have e2 : (r.k == 2) = false := by rw [hk]; rfl
  have e3 : (r.k == 3) = false := by rw [hk]; rfl
  have e4 : (r.k == 4) = false := by rw [hk]; rfl
  have e5 : (r.k == 5) = false := by rw [hk]; rfl
  have e6 : (r.k == 6) = false := by rw [hk]; rfl
  have e8 : (r.k == 8) = false := by rw [hk]; rfl
  have e9 : (r.k == 9) = false := by rw [hk]; rfl
  have hd : (cls r.k != cls r'.k) = false := by rw [hc]; simp
  have HH := Lib.hid h
  have HK := Lib.hid (show r.k = 1 ∨ r.k = 2 ∨ r.k = 3 by omega)
  have HK' := Lib.hid hk'
  clear hk'
  obtain ⟨R, hR⟩ : ∃ R, R = lex Od.sg t.leafKey t'.leafKey := ⟨_, rfl⟩
  rw [← hR]
  have HR := Lib.hid hR
  clear hR
  clear h hc hk
  go_enter Try.func30, Try.ntmps30
  go_wp2_with fail
  go_quiet ((go_at_call 45; exact Calls.quiet_of_same ((class_any _ _).mono fun _ _ h => ⟨h.1, h.2.symm⟩)))
  have y0' : (w.drewN nq).cell? ⟨b, o, none⟩ = some (.int .i64 r.k) := y0
  have hb : Below w.heap.size w (w.drewN nq) := (Below.refl _ _).drewN' _
  clear y0 x0
  generalize w.drewN nq = W at *
  go_wp2_with fail
  refine (nums_any W b o r t b' o' r' t' (HH.out.below hb) hf hf' HK.out HK'.out).mono ?_
  rw [← HR.out]
  rintro e w1 ⟨rfl, hb1⟩
  go_wp2
  go_ret
  exact ⟨rfl, hb.trans (hb1.mono hb.size)⟩

set_option maxRecDepth 100000 in
set_option maxHeartbeats 4000000 in
theorem compare_k2 (w : World) (b o : Nat) (r : TR) (t : Tm) (b' o' : Nat) (r' : TR) (t' : Tm) (h : Two w b o r t b' o' r' t') (hc : cls r.k = cls r'.k) (hk : r.k = 2) (hf : t.boundB = true) (hf' : t'.boundB = true) (hk' : r'.k = 1 ∨ r'.k = 2 ∨ r'.k = 3) :
    Calls Try.prog 30 #[.pointer (some ⟨b, o, none⟩), .pointer (some ⟨b', o', none⟩)] w (IntPost w (lex Od.sg t.leafKey t'.leafKey)) := by
  have y0 := h.at1.c0
  have x0 := h.at2.c0
  have e1 : (r.k == 1) = false := by rw [hk]; rfl
  have e2 : (r.k == 2) = true := by rw [hk]; rfl
  have e3 : (r.k == 3) = false := by rw [hk]; rfl
  have e4 : (r.k == 4) = false := by rw [hk]; rfl
  have e5 : (r.k == 5) = false := by rw [hk]; rfl
  have e6 : (r.k == 6) = false := by rw [hk]; rfl
  have e8 : (r.k == 8) = false := by rw [hk]; rfl
  have e9 : (r.k == 9) = false := by rw [hk]; rfl
  have hd : (cls r.k != cls r'.k) = false := by rw [hc]; simp
  have HH := Lib.hid h
  have HK := Lib.hid (show r.k = 1 ∨ r.k = 2 ∨ r.k = 3 by omega)
  have HK' := Lib.hid hk'
  clear hk'
  obtain ⟨R, hR⟩ : ∃ R, R = lex Od.sg t.leafKey t'.leafKey := ⟨_, rfl⟩
  rw [← hR]
  have HR := Lib.hid hR
  clear hR
  clear h hc hk
  go_enter Try.func30, Try.ntmps30
  go_wp2_with fail
  go_quiet ((go_at_call 45; exact Calls.quiet_of_same ((class_any _ _).mono fun _ _ h => ⟨h.1, h.2.symm⟩)))
  have y0' : (w.drewN nq).cell? ⟨b, o, none⟩ = some (.int .i64 r.k) := y0
  have hb : Below w.heap.size w (w.drewN nq) := (Below.refl _ _).drewN' _
  clear y0 x0
  generalize w.drewN nq = W at *
  go_wp2_with fail
  refine (nums_any W b o r t b' o' r' t' (HH.out.below hb) hf hf' HK.out HK'.out).mono ?_
  rw [← HR.out]
  rintro e w1 ⟨rfl, hb1⟩
  go_wp2
  go_ret
  exact ⟨rfl, hb.trans (hb1.mono hb.size)⟩

set_option maxRecDepth 100000 in
set_option maxHeartbeats 4000000 in
theorem compare_k3 (w : World) (b o : Nat) (r : TR) (t : Tm) (b' o' : Nat) (r' : TR) (t' : Tm) (h : Two w b o r t b' o' r' t') (hc : cls r.k = cls r'.k) (hk : r.k = 3) (hf : t.boundB = true) (hf' : t'.boundB = true) (hk' : r'.k = 1 ∨ r'.k = 2 ∨ r'.k = 3) :
    Calls Try.prog 30 #[.pointer (some ⟨b, o, none⟩), .pointer (some ⟨b', o', none⟩)] w (IntPost w (lex Od.sg t.leafKey t'.leafKey)) := by
  have y0 := h.at1.c0
  have x0 := h.at2.c0
  have e1 : (r.k == 1) = false := by rw [hk]; rfl
  have e2 : (r.k == 2) = false := by rw [hk]; rfl
  have e3 : (r.k == 3) = true := by rw [hk]; rfl
  have e4 : (r.k == 4) = false := by rw [hk]; rfl
  have e5 : (r.k == 5) = false := by rw [hk]; rfl
  have e6 : (r.k == 6) = false := by rw [hk]; rfl
  have e8 : (r.k == 8) = false := by rw [hk]; rfl
  have e9 : (r.k == 9) = false := by rw [hk]; rfl
  have hd : (cls r.k != cls r'.k) = false := by rw [hc]; simp
  have HH := Lib.hid h
  have HK := Lib.hid (show r.k = 1 ∨ r.k = 2 ∨ r.k = 3 by omega)
  have HK' := Lib.hid hk'
  clear hk'
  obtain ⟨R, hR⟩ : ∃ R, R = lex Od.sg t.leafKey t'.leafKey := ⟨_, rfl⟩
  rw [← hR]
  have HR := Lib.hid hR
  clear hR
  clear h hc hk
  go_enter Try.func30, Try.ntmps30
  go_wp2_with fail
  go_quiet ((go_at_call 45; exact Calls.quiet_of_same ((class_any _ _).mono fun _ _ h => ⟨h.1, h.2.symm⟩)))
  have y0' : (w.drewN nq).cell? ⟨b, o, none⟩ = some (.int .i64 r.k) := y0
  have hb : Below w.heap.size w (w.drewN nq) := (Below.refl _ _).drewN' _
  clear y0 x0
  generalize w.drewN nq = W at *
  go_wp2_with fail
  refine (nums_any W b o r t b' o' r' t' (HH.out.below hb) hf hf' HK.out HK'.out).mono ?_
  rw [← HR.out]
  rintro e w1 ⟨rfl, hb1⟩
  go_wp2
  go_ret
  exact ⟨rfl, hb.trans (hb1.mono hb.size)⟩

set_option maxRecDepth 100000 in
set_option maxHeartbeats 4000000 in
theorem compare_k4 (w : World) (b o : Nat) (r : TR) (t : Tm) (b' o' : Nat) (r' : TR) (t' : Tm) (h : Two w b o r t b' o' r' t') (hc : cls r.k = cls r'.k) (hk : r.k = 4) :
    Calls Try.prog 30 #[.pointer (some ⟨b, o, none⟩), .pointer (some ⟨b', o', none⟩)] w (IntPost w (Od.sg r.n r'.n)) := by
  have y0 := h.at1.c0
  have x0 := h.at2.c0
  have y1 := h.at1.c1
  have x1 := h.at2.c1
  have e1 : (r.k == 1) = false := by rw [hk]; rfl
  have e2 : (r.k == 2) = false := by rw [hk]; rfl
  have e3 : (r.k == 3) = false := by rw [hk]; rfl
  have e4 : (r.k == 4) = true := by rw [hk]; rfl
  have e5 : (r.k == 5) = false := by rw [hk]; rfl
  have e6 : (r.k == 6) = false := by rw [hk]; rfl
  have e8 : (r.k == 8) = false := by rw [hk]; rfl
  have e9 : (r.k == 9) = false := by rw [hk]; rfl
  have hd : (cls r.k != cls r'.k) = false := by rw [hc]; simp
  obtain ⟨R, hR⟩ : ∃ R, R = Od.sg r.n r'.n := ⟨_, rfl⟩
  rw [← hR]
  have HR := Lib.hid hR
  clear hR
  clear h hc hk
  go_enter Try.func30, Try.ntmps30
  go_wp2_with fail
  go_quiet ((go_at_call 45; exact Calls.quiet_of_same ((class_any _ _).mono fun _ _ h => ⟨h.1, h.2.symm⟩)))
  have y0' : (w.drewN nq).cell? ⟨b, o, none⟩ = some (.int .i64 r.k) := y0
  have hb : Below w.heap.size w (w.drewN nq) := (Below.refl _ _).drewN' _
  have y1' : (w.drewN nq).cell? ⟨b, o + 1, none⟩ = some (.int .i64 r.n) := y1
  have x1' : (w.drewN nq).cell? ⟨b', o' + 1, none⟩ = some (.int .i64 r'.n) := x1
  clear y1 x1
  clear y0 x0
  generalize w.drewN nq = W at *
  go_wp2_with fail
  go_quiet ((go_at_call 46; exact Calls.quiet_of_same ((compareI _ _ _).mono fun _ _ h => ⟨h.1, h.2.symm⟩)))
  go_wp2
  go_ret
  exact ⟨by rw [HR.out]; rfl, hb.drewN' _⟩

set_option maxRecDepth 100000 in
set_option maxHeartbeats 4000000 in
theorem compare_k5 (w : World) (b o : Nat) (r : TR) (t : Tm) (b' o' : Nat) (r' : TR) (t' : Tm) (h : Two w b o r t b' o' r' t') (hc : cls r.k = cls r'.k) (hk : r.k = 5) :
    Calls Try.prog 30 #[.pointer (some ⟨b, o, none⟩), .pointer (some ⟨b', o', none⟩)] w (IntPost w (Od.sg r.n r'.n)) := by
  have y0 := h.at1.c0
  have x0 := h.at2.c0
  have y1 := h.at1.c1
  have x1 := h.at2.c1
  have e1 : (r.k == 1) = false := by rw [hk]; rfl
  have e2 : (r.k == 2) = false := by rw [hk]; rfl
  have e3 : (r.k == 3) = false := by rw [hk]; rfl
  have e4 : (r.k == 4) = false := by rw [hk]; rfl
  have e5 : (r.k == 5) = true := by rw [hk]; rfl
  have e6 : (r.k == 6) = false := by rw [hk]; rfl
  have e8 : (r.k == 8) = false := by rw [hk]; rfl
  have e9 : (r.k == 9) = false := by rw [hk]; rfl
  have hd : (cls r.k != cls r'.k) = false := by rw [hc]; simp
  obtain ⟨R, hR⟩ : ∃ R, R = Od.sg r.n r'.n := ⟨_, rfl⟩
  rw [← hR]
  have HR := Lib.hid hR
  clear hR
  clear h hc hk
  go_enter Try.func30, Try.ntmps30
  go_wp2_with fail
  go_quiet ((go_at_call 45; exact Calls.quiet_of_same ((class_any _ _).mono fun _ _ h => ⟨h.1, h.2.symm⟩)))
  have y0' : (w.drewN nq).cell? ⟨b, o, none⟩ = some (.int .i64 r.k) := y0
  have hb : Below w.heap.size w (w.drewN nq) := (Below.refl _ _).drewN' _
  have y1' : (w.drewN nq).cell? ⟨b, o + 1, none⟩ = some (.int .i64 r.n) := y1
  have x1' : (w.drewN nq).cell? ⟨b', o' + 1, none⟩ = some (.int .i64 r'.n) := x1
  clear y1 x1
  clear y0 x0
  generalize w.drewN nq = W at *
  go_wp2_with fail
  go_quiet ((go_at_call 46; exact Calls.quiet_of_same ((compareI _ _ _).mono fun _ _ h => ⟨h.1, h.2.symm⟩)))
  go_wp2
  go_ret
  exact ⟨by rw [HR.out]; rfl, hb.drewN' _⟩

set_option maxRecDepth 100000 in
set_option maxHeartbeats 4000000 in
theorem compare_k6 (w : World) (b o : Nat) (r : TR) (t : Tm) (b' o' : Nat) (r' : TR) (t' : Tm) (h : Two w b o r t b' o' r' t') (hc : cls r.k = cls r'.k) (hk : r.k = 6) (Q : Int) (HQ : ∀ w' : World, Below w.heap.size w w' → Calls Try.prog 48 #[.slice r.B r.m r.d, .slice r'.B r'.m r'.d] w' (IntPost w' Q)) :
    Calls Try.prog 30 #[.pointer (some ⟨b, o, none⟩), .pointer (some ⟨b', o', none⟩)] w (IntPost w (Q)) := by
  have y0 := h.at1.c0
  have x0 := h.at2.c0
  have y6 := h.at1.c6
  have x6 := h.at2.c6
  have e1 : (r.k == 1) = false := by rw [hk]; rfl
  have e2 : (r.k == 2) = false := by rw [hk]; rfl
  have e3 : (r.k == 3) = false := by rw [hk]; rfl
  have e4 : (r.k == 4) = false := by rw [hk]; rfl
  have e5 : (r.k == 5) = false := by rw [hk]; rfl
  have e6 : (r.k == 6) = true := by rw [hk]; rfl
  have e8 : (r.k == 8) = false := by rw [hk]; rfl
  have e9 : (r.k == 9) = false := by rw [hk]; rfl
  have hd : (cls r.k != cls r'.k) = false := by rw [hc]; simp
  have HC := Lib.hid HQ
  clear HQ
  clear h hc hk
  go_enter Try.func30, Try.ntmps30
  go_wp2_with fail
  go_quiet ((go_at_call 45; exact Calls.quiet_of_same ((class_any _ _).mono fun _ _ h => ⟨h.1, h.2.symm⟩)))
  have y0' : (w.drewN nq).cell? ⟨b, o, none⟩ = some (.int .i64 r.k) := y0
  have hb : Below w.heap.size w (w.drewN nq) := (Below.refl _ _).drewN' _
  have y6' : (w.drewN nq).cell? ⟨b, o + 6, none⟩ = some (.slice r.B r.m r.d) := y6
  have x6' : (w.drewN nq).cell? ⟨b', o' + 6, none⟩ = some (.slice r'.B r'.m r'.d) := x6
  clear y6 x6
  clear y0 x0
  generalize w.drewN nq = W at *
  go_wp2_with fail
  go_region_with (first
    | (go_at_call 48; refine (HC.out _ (by exact hb.drew)).mono ?_; rintro e v ⟨rfl, hv⟩))
  all_goals
    go_wp2
    go_ret
    exact ⟨rfl, hb.drew.trans (hv.mono hb.size)⟩

set_option maxRecDepth 100000 in
set_option maxHeartbeats 4000000 in
theorem compare_k8 (w : World) (b o : Nat) (r : TR) (t : Tm) (b' o' : Nat) (r' : TR) (t' : Tm) (h : Two w b o r t b' o' r' t') (hc : cls r.k = cls r'.k) (hk : r.k = 8) (Q : Int) (HQ : ∀ w' : World, Below w.heap.size w w' → Calls Try.prog 48 #[.slice r.B r.m r.d, .slice r'.B r'.m r'.d] w' (IntPost w' Q)) :
    Calls Try.prog 30 #[.pointer (some ⟨b, o, none⟩), .pointer (some ⟨b', o', none⟩)] w (IntPost w (Q)) := by
  have y0 := h.at1.c0
  have x0 := h.at2.c0
  have y6 := h.at1.c6
  have x6 := h.at2.c6
  have e1 : (r.k == 1) = false := by rw [hk]; rfl
  have e2 : (r.k == 2) = false := by rw [hk]; rfl
  have e3 : (r.k == 3) = false := by rw [hk]; rfl
  have e4 : (r.k == 4) = false := by rw [hk]; rfl
  have e5 : (r.k == 5) = false := by rw [hk]; rfl
  have e6 : (r.k == 6) = false := by rw [hk]; rfl
  have e8 : (r.k == 8) = true := by rw [hk]; rfl
  have e9 : (r.k == 9) = false := by rw [hk]; rfl
  have hd : (cls r.k != cls r'.k) = false := by rw [hc]; simp
  have HC := Lib.hid HQ
  clear HQ
  clear h hc hk
  go_enter Try.func30, Try.ntmps30
  go_wp2_with fail
  go_quiet ((go_at_call 45; exact Calls.quiet_of_same ((class_any _ _).mono fun _ _ h => ⟨h.1, h.2.symm⟩)))
  have y0' : (w.drewN nq).cell? ⟨b, o, none⟩ = some (.int .i64 r.k) := y0
  have hb : Below w.heap.size w (w.drewN nq) := (Below.refl _ _).drewN' _
  have y6' : (w.drewN nq).cell? ⟨b, o + 6, none⟩ = some (.slice r.B r.m r.d) := y6
  have x6' : (w.drewN nq).cell? ⟨b', o' + 6, none⟩ = some (.slice r'.B r'.m r'.d) := x6
  clear y6 x6
  clear y0 x0
  generalize w.drewN nq = W at *
  go_wp2_with fail
  go_region_with (first
    | (go_at_call 48; refine (HC.out _ (by exact hb.drew)).mono ?_; rintro e v ⟨rfl, hv⟩))
  all_goals
    go_wp2
    go_ret
    exact ⟨rfl, hb.drew.trans (hv.mono hb.size)⟩

set_option maxRecDepth 100000 in
set_option maxHeartbeats 4000000 in
theorem compare_k7 (w : World) (b o : Nat) (r : TR) (t : Tm) (b' o' : Nat) (r' : TR) (t' : Tm) (h : Two w b o r t b' o' r' t') (hc : cls r.k = cls r'.k) (hk : r.k = 7) :
    Calls Try.prog 30 #[.pointer (some ⟨b, o, none⟩), .pointer (some ⟨b', o', none⟩)] w (IntPost w (0)) := by
  have y0 := h.at1.c0
  have x0 := h.at2.c0
  have e1 : (r.k == 1) = false := by rw [hk]; rfl
  have e2 : (r.k == 2) = false := by rw [hk]; rfl
  have e3 : (r.k == 3) = false := by rw [hk]; rfl
  have e4 : (r.k == 4) = false := by rw [hk]; rfl
  have e5 : (r.k == 5) = false := by rw [hk]; rfl
  have e6 : (r.k == 6) = false := by rw [hk]; rfl
  have e8 : (r.k == 8) = false := by rw [hk]; rfl
  have e9 : (r.k == 9) = false := by rw [hk]; rfl
  have hd : (cls r.k != cls r'.k) = false := by rw [hc]; simp
  clear h hc hk
  go_enter Try.func30, Try.ntmps30
  go_wp2_with fail
  go_quiet ((go_at_call 45; exact Calls.quiet_of_same ((class_any _ _).mono fun _ _ h => ⟨h.1, h.2.symm⟩)))
  have y0' : (w.drewN nq).cell? ⟨b, o, none⟩ = some (.int .i64 r.k) := y0
  have hb : Below w.heap.size w (w.drewN nq) := (Below.refl _ _).drewN' _
  clear y0 x0
  generalize w.drewN nq = W at *
  go_wp2
  go_ret
  exact ⟨rfl, hb⟩

set_option maxRecDepth 100000 in
set_option maxHeartbeats 4000000 in
theorem compare_k9 (w : World) (b o : Nat) (r : TR) (t : Tm) (b' o' : Nat) (r' : TR) (t' : Tm) (h : Two w b o r t b' o' r' t') (hc : cls r.k = cls r'.k) (hk : r.k = 9) :
    Calls Try.prog 30 #[.pointer (some ⟨b, o, none⟩), .pointer (some ⟨b', o', none⟩)] w (IntPost w (cmpS r.s r'.s)) := by
  have y0 := h.at1.c0
  have x0 := h.at2.c0
  have y5 := h.at1.c5
  have x5 := h.at2.c5
  have e1 : (r.k == 1) = false := by rw [hk]; rfl
  have e2 : (r.k == 2) = false := by rw [hk]; rfl
  have e3 : (r.k == 3) = false := by rw [hk]; rfl
  have e4 : (r.k == 4) = false := by rw [hk]; rfl
  have e5 : (r.k == 5) = false := by rw [hk]; rfl
  have e6 : (r.k == 6) = false := by rw [hk]; rfl
  have e8 : (r.k == 8) = false := by rw [hk]; rfl
  have e9 : (r.k == 9) = true := by rw [hk]; rfl
  have hd : (cls r.k != cls r'.k) = false := by rw [hc]; simp
  obtain ⟨R, hR⟩ : ∃ R, R = cmpS r.s r'.s := ⟨_, rfl⟩
  rw [← hR]
  have HR := Lib.hid hR
  clear hR
  clear h hc hk
  go_enter Try.func30, Try.ntmps30
  go_wp2_with fail
  go_quiet ((go_at_call 45; exact Calls.quiet_of_same ((class_any _ _).mono fun _ _ h => ⟨h.1, h.2.symm⟩)))
  have y0' : (w.drewN nq).cell? ⟨b, o, none⟩ = some (.int .i64 r.k) := y0
  have hb : Below w.heap.size w (w.drewN nq) := (Below.refl _ _).drewN' _
  have y5' : (w.drewN nq).cell? ⟨b, o + 5, none⟩ = some (.string r.s) := y5
  have x5' : (w.drewN nq).cell? ⟨b', o' + 5, none⟩ = some (.string r'.s) := x5
  clear y5 x5
  clear y0 x0
  generalize w.drewN nq = W at *
  go_wp2_with fail
  go_quiet ((go_at_call 49; exact Calls.quiet_of_same ((compareS _ _ _).mono fun _ _ h => ⟨h.1, h.2.symm⟩)))
  go_wp2
  go_ret
  exact ⟨by rw [HR.out]; rfl, hb.drewN' _⟩

set_option maxRecDepth 100000 in
theorem compare_any (t : Tm) : ∀ (w : World) (b o : Nat) (r : TR) (b' o' : Nat) (r' : TR) (t' : Tm), Two w b o r t b' o' r' t' → t.formB = true → t'.formB = true → Calls Try.prog 30 #[.pointer (some ⟨b, o, none⟩), .pointer (some ⟨b', o', none⟩)] w (IntPost w (Tm.cmpT t t')) := by
  induction t using Tm.ind with
  | h k n g l u s ks ih =>
    obtain ⟨t, ht⟩ : ∃ t, t = Tm.mk k n g l u s ks := ⟨_, rfl⟩
    have hks : t.args = ks := by rw [ht]; rfl
    rw [← hks] at ih
    rw [← ht]
    clear hks ht
    intro w b o r b' o' r' t' h hf hf'
    have kt := h.tv1.kind
    have kt' := h.tv2.kind
    by_cases hc : cls r.k = cls r'.k
    · have hc' : cls t.kind = cls t'.kind := by rw [kt, kt']; exact hc
      obtain ⟨ba, fka⟩ := Tm.form_bound hf
      obtain ⟨bb, fkb⟩ := Tm.form_bound hf'
      have ka := Tm.bound_kind ba
      have kb := Tm.bound_kind bb
      have hone := cls_one hc' ka kb
      have leaf : ¬ (t.kind = 6 ∨ t.kind = 8) → ¬ (t'.kind = 6 ∨ t'.kind = 8) → Tm.cmpT t t' = lex Od.sg t.leafKey t'.leafKey := fun h1 h2 => cmpT_leaf hc' (Tm.form_args hf h1) (Tm.form_args hf' h2)
      have nums : t.kind = 1 ∨ t.kind = 2 ∨ t.kind = 3 → Calls Try.prog 30 #[.pointer (some ⟨b, o, none⟩), .pointer (some ⟨b', o', none⟩)] w (IntPost w (Tm.cmpT t t')) := fun hk => by
        have hk' : t'.kind = 1 ∨ t'.kind = 2 ∨ t'.kind = 3 := by omega
        rw [leaf (by omega) (by omega)]
        rw [kt'] at hk'
        rcases hk with e | e | e
        · exact compare_k1 w b o r t b' o' r' t' h hc (by omega) ba bb hk'
        · exact compare_k2 w b o r t b' o' r' t' h hc (by omega) ba bb hk'
        · exact compare_k3 w b o r t b' o' r' t' h hc (by omega) ba bb hk'
      have args : ∀ w', Below w.heap.size w w' → Calls Try.prog 48 #[.slice r.B r.m r.d, .slice r'.B r'.m r'.d] w' (IntPost w' (cmpArgs t.args t'.args)) := fun w' hb =>
        compareArgs_of t.args ih t'.args fka fkb w' r.B r.m r.d (h.below hb).tv1.args r'.B r'.m r'.d (h.below hb).tv2.args
      rcases ka with e | e | e | e | e | e | e | e | e
      · exact nums (by omega)
      · exact nums (by omega)
      · exact nums (by omega)
      · rw [leaf (by omega) (by omega), leafKey_n (by omega), leafKey_n (by omega), h.tv1.num, h.tv2.num]
        rw [show lex Od.sg [r.n] [r'.n] = Od.sg r.n r'.n from andC_zero _]
        exact compare_k4 w b o r t b' o' r' t' h hc (by omega)
      · rw [leaf (by omega) (by omega), leafKey_n (by omega), leafKey_n (by omega), h.tv1.num, h.tv2.num]
        rw [show lex Od.sg [r.n] [r'.n] = Od.sg r.n r'.n from andC_zero _]
        exact compare_k5 w b o r t b' o' r' t' h hc (by omega)
      · rw [cmpT_node (by omega) (by omega)]
        exact compare_k6 w b o r t b' o' r' t' h hc (by omega) _ args
      · rw [leaf (by omega) (by omega), leafKey_o (by omega), leafKey_o (by omega)]
        exact compare_k7 w b o r t b' o' r' t' h hc (by omega)
      · rw [cmpT_node (by omega) (by omega)]
        exact compare_k8 w b o r t b' o' r' t' h hc (by omega) _ args
      · rw [leaf (by omega) (by omega), leafKey_s (by omega), leafKey_s (by omega), h.tv1.bytes, h.tv2.bytes, bytes_sg]
        exact compare_k9 w b o r t b' o' r' t' h hc (by omega)
    · rw [cmpT_cls (by rw [kt, kt']; exact hc), kt, kt']
      exact compare_cls w b o r t b' o' r' t' h hc
end Go.Proofs.Ytbhmkdbdhojmcaa

namespace Go.Proofs.Ytbhmkdbdhojmcaa
open Go.RowKit
open Od

/-- How two terms stand, by the program. -/
noncomputable def Tm.ordB (t t' : Tm) : Int := if t.mayB && t'.mayB then Tm.cmpT t t' else 0
set_option maxRecDepth 100000 in
theorem Tm.may_form {t : Tm} (h : t.mayB = true) : t.formB = true := by
  unfold Tm.mayB at h
  rw [Bool.and_eq_true] at h
  exact h.2
set_option maxRecDepth 100000 in
theorem Tm.ordB_tri (t t' : Tm) : Tri (Tm.ordB t t') := by
  unfold Tm.ordB
  split
  · exact Tm.cmpT_tri t t'
  · exact .inr (.inl rfl)

set_option maxRecDepth 100000 in
set_option maxHeartbeats 2000000 in
theorem cmp_term (w : World) (r : TR) (t : Tm) (h : TV w r t) (ho : t.Ok) (r' : TR) (t' : Tm) (h' : TV w r' t') (ho' : t'.Ok) :
    Calls Try.prog 12 #[.agg #[.int .i64 r.k, .int .i64 r.n, .bool r.g, .slice r.A r.ln r.lc, .int .u64 r.u, .string r.s, .slice r.B r.m r.d], .agg #[.int .i64 r'.k, .int .i64 r'.n, .bool r'.g, .slice r'.A r'.ln r'.lc, .int .u64 r'.u, .string r'.s, .slice r'.B r'.m r'.d]] w (IntPost w (Tm.ordB t t')) := by
  obtain ⟨R, hR⟩ : ∃ R, R = Tm.ordB t t' := ⟨_, rfl⟩
  rw [← hR]
  unfold Tm.ordB at hR
  have HR := Lib.hid hR
  clear hR
  have I := SmI.new h h'
  clear h h'
  have y0 := I.bx.at.c0; have y1 := I.bx.at.c1; have y2 := I.bx.at.c2; have y3 := I.bx.at.c3; have y4 := I.bx.at.c4; have y5 := I.bx.at.c5; have y6 := I.bx.at.c6
  go_enter Try.func12, Try.ntmps12
  go_wp2_with fail
  generalize (w.alloc (.cells #[.int .i64 r.k, .int .i64 r.n, .bool r.g, .slice r.A r.ln r.lc, .int .u64 r.u, .string r.s, .slice r.B r.m r.d] 28)).alloc (.cells #[.int .i64 r'.k, .int .i64 r'.n, .bool r'.g, .slice r'.A r'.ln r'.lc, .int .u64 r'.u, .string r'.s, .slice r'.B r'.m r'.d] 28) = W at *
  refine (mayTerm_any W r t I.tv ho).mono ?_
  cases hm : t.mayB with
  | false =>
    have fin := Lib.hid (show R = 0 by rw [HR.out, hm]; rfl)
    rintro e w1 ⟨rfl, hb1⟩
    go_wp2
    go_ret
    exact ⟨by rw [fin.out]; rfl, I.be.trans (hb1.mono I.be.size)⟩
  | true =>
    rintro e w1 ⟨rfl, hb1⟩
    have I1 := I.below hb1
    clear I y0 y1 y2 y3 y4 y5 y6
    have y0 := I1.ix.at.c0; have y1 := I1.ix.at.c1; have y2 := I1.ix.at.c2; have y3 := I1.ix.at.c3; have y4 := I1.ix.at.c4; have y5 := I1.ix.at.c5; have y6 := I1.ix.at.c6
    go_wp2_with fail
    refine (mayTerm_any w1 r' t' I1.tw ho').mono ?_
    cases hm' : t'.mayB with
    | false =>
      have fin := Lib.hid (show R = 0 by rw [HR.out, hm, hm']; rfl)
      rintro e w2 ⟨rfl, hb2⟩
      go_wp2
      go_ret
      exact ⟨by rw [fin.out]; rfl, I1.be.trans (hb2.mono I1.be.size)⟩
    | true =>
      have fin := Lib.hid (show R = Tm.cmpT t t' by rw [HR.out, hm, hm']; rfl)
      rintro e w2 ⟨rfl, hb2⟩
      have I2 := I1.below hb2
      clear I1 y0 y1 y2 y3 y4 y5 y6
      go_wp2_with fail
      refine (compare_any t w2 w.heap.size 0 r (w.heap.size + 1) 0 r' t' ⟨I2.bx.at, I2.ix.at, I2.tv, I2.tw⟩ (Tm.may_form hm) (Tm.may_form hm')).mono ?_
      rw [← fin.out]
      rintro e w3 ⟨rfl, hb3⟩
      go_wp2
      go_ret
      exact ⟨rfl, I2.be.trans (hb3.mono I2.be.size)⟩

set_option maxRecDepth 100000 in
set_option maxHeartbeats 2000000 in
theorem less_term (w : World) (r : TR) (t : Tm) (h : TV w r t) (ho : t.Ok) (r' : TR) (t' : Tm) (h' : TV w r' t') (ho' : t'.Ok) :
    Calls Try.prog 14 #[.agg #[.int .i64 r.k, .int .i64 r.n, .bool r.g, .slice r.A r.ln r.lc, .int .u64 r.u, .string r.s, .slice r.B r.m r.d], .agg #[.int .i64 r'.k, .int .i64 r'.n, .bool r'.g, .slice r'.A r'.ln r'.lc, .int .u64 r'.u, .string r'.s, .slice r'.B r'.m r'.d]] w fun e w' => e = .returned (.bool (decide (Tm.ordB t t' < 0))) ∧ Below w.heap.size w w' := by
  obtain ⟨q, hq⟩ : ∃ q, q = Tm.ordB t t' := ⟨_, rfl⟩
  rw [← hq]
  have HQ := Lib.hid hq
  clear hq
  have I := SmI.new h h'
  clear h h'
  have y0 := I.bx.at.c0; have y1 := I.bx.at.c1; have y2 := I.bx.at.c2; have y3 := I.bx.at.c3; have y4 := I.bx.at.c4; have y5 := I.bx.at.c5; have y6 := I.bx.at.c6; have x0 := I.ix.at.c0; have x1 := I.ix.at.c1; have x2 := I.ix.at.c2; have x3 := I.ix.at.c3; have x4 := I.ix.at.c4; have x5 := I.ix.at.c5; have x6 := I.ix.at.c6
  go_enter Try.func14, Try.ntmps14
  go_wp2_with fail
  generalize (w.alloc (.cells #[.int .i64 r.k, .int .i64 r.n, .bool r.g, .slice r.A r.ln r.lc, .int .u64 r.u, .string r.s, .slice r.B r.m r.d] 28)).alloc (.cells #[.int .i64 r'.k, .int .i64 r'.n, .bool r'.g, .slice r'.A r'.ln r'.lc, .int .u64 r'.u, .string r'.s, .slice r'.B r'.m r'.d] 28) = W at *
  refine (cmp_term W r t I.tv ho r' t' I.tw ho').mono ?_
  rw [← HQ.out]
  rintro e w1 ⟨rfl, hb1⟩
  go_wp2
  go_ret
  exact ⟨rfl, I.be.trans (hb1.mono I.be.size)⟩
end Go.Proofs.Ytbhmkdbdhojmcaa
