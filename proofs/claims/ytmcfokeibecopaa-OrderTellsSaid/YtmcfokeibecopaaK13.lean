/-
  PLAIN MATHEMATICS OF ORDERS THAT ANSWER -1, 0 OR 1: one behind the other, and along lists. Nothing of the program stands here.
  THE ORDER OF TERMS, by keys: a class, a list of numbers, the arguments. Nothing of the program stands here.
  TERMS THAT STAND AT ONE PLACE ARE ONE, where they may be. Nothing of the program stands here.
  ROWS OF TERMS THAT RISE: putting one in; that there is just one such row. Nothing of the program stands here.
-/
import Derived.Test.YtmcfokeibecopaaK7
import Derived.Test.YtmcfokeibecopaaK9
namespace Go.Proofs.Ytmcfokeibecopaa
namespace Od

/-- The sign of a difference. -/
def sg (a b : Int) : Int := if a < b then -1 else if b < a then 1 else 0
/-- The first, and where it is 0 the second. -/
def andC (x y : Int) : Int := if x = 0 then y else x
/-- Along two lists; of which one is the beginning of the other the shorter one is lesser. -/
def lex {α : Type} (f : α → α → Int) : List α → List α → Int
  | [], [] => 0
  | [], _ :: _ => -1
  | _ :: _, [] => 1
  | x :: xs, y :: ys => andC (f x y) (lex f xs ys)

/-- An answer is -1, 0 or 1. -/
def Tri (x : Int) : Prop := x = -1 ∨ x = 0 ∨ x = 1
set_option maxRecDepth 100000 in
theorem sg_tri (a b : Int) : Tri (sg a b) := by
  unfold sg Tri
  repeat' split
  all_goals simp
set_option maxRecDepth 100000 in
theorem andC_tri {x y : Int} (hx : Tri x) (hy : Tri y) : Tri (andC x y) := by unfold andC; split <;> assumption
set_option maxRecDepth 100000 in
theorem lex_tri {α : Type} {f : α → α → Int} : ∀ {xs ys : List α}, (∀ x ∈ xs, ∀ y ∈ ys, Tri (f x y)) → Tri (lex f xs ys)
  | [], [], _ => .inr (.inl rfl)
  | [], _ :: _, _ => .inl rfl
  | _ :: _, [], _ => .inr (.inr rfl)
  | x :: xs, y :: ys, h => andC_tri (h x (by simp) y (by simp)) (lex_tri fun a ha b hb => h a (by simp [ha]) b (by simp [hb]))

set_option maxRecDepth 100000 in
theorem sg_anti (a b : Int) : sg b a = -sg a b := by
  unfold sg
  by_cases h1 : a < b
  · rw [if_neg (by omega), if_pos h1, if_pos h1]; rfl
  · by_cases h2 : b < a
    · rw [if_pos h2, if_neg h1, if_pos h2]
    · rw [if_neg h2, if_neg h1, if_neg h1, if_neg h2]; rfl
set_option maxRecDepth 100000 in
theorem andC_anti {x y x' y' : Int} (hx : x' = -x) (hy : y' = -y) : andC x' y' = -andC x y := by
  unfold andC
  by_cases h : x = 0
  · rw [if_pos h, if_pos (by omega), hy]
  · rw [if_neg h, if_neg (by omega), hx]
set_option maxRecDepth 100000 in
theorem lex_anti {α : Type} {f : α → α → Int} : ∀ {xs ys : List α}, (∀ x ∈ xs, ∀ y ∈ ys, f y x = -f x y) → lex f ys xs = -lex f xs ys
  | [], [], _ => rfl
  | [], _ :: _, _ => rfl
  | _ :: _, [], _ => rfl
  | x :: xs, y :: ys, h => andC_anti (h x (by simp) y (by simp)) (lex_anti fun a ha b hb => h a (by simp [ha]) b (by simp [hb]))

/-- What goes along: of three answers, from the first to the second, from there to the third, and from the first to the third. -/
structure Alo (x y z : Int) : Prop where
  le : x ≤ 0 → y ≤ 0 → z ≤ 0
  ge : 0 ≤ x → 0 ≤ y → 0 ≤ z
  lt1 : x < 0 → y ≤ 0 → z < 0
  lt2 : x ≤ 0 → y < 0 → z < 0
  gt1 : 0 < x → 0 ≤ y → 0 < z
  gt2 : 0 ≤ x → 0 < y → 0 < z
set_option maxRecDepth 100000 in
theorem Alo.zero : Alo 0 0 0 := ⟨by omega, by omega, by omega, by omega, by omega, by omega⟩
set_option maxRecDepth 100000 in
theorem sg_lt {a b : Int} : sg a b < 0 ↔ a < b := by
  unfold sg
  repeat' split
  all_goals omega
set_option maxRecDepth 100000 in
theorem sg_le {a b : Int} : sg a b ≤ 0 ↔ a ≤ b := by
  unfold sg
  repeat' split
  all_goals omega
set_option maxRecDepth 100000 in
theorem sg_gt {a b : Int} : 0 < sg a b ↔ b < a := by
  unfold sg
  repeat' split
  all_goals omega
set_option maxRecDepth 100000 in
theorem sg_ge {a b : Int} : 0 ≤ sg a b ↔ b ≤ a := by
  unfold sg
  repeat' split
  all_goals omega
set_option maxRecDepth 100000 in
theorem sg_eq {a b : Int} : sg a b = 0 ↔ a = b := by
  unfold sg
  repeat' split
  all_goals omega
set_option maxRecDepth 100000 in
theorem sg_alo (a b c : Int) : Alo (sg a b) (sg b c) (sg a c) := by
  constructor <;> simp only [sg_lt, sg_le, sg_gt, sg_ge] <;> omega
set_option maxRecDepth 100000 in
theorem andC_alo {x y z x' y' z' : Int} (h : Alo x y z) (h' : Alo x' y' z') : Alo (andC x x') (andC y y') (andC z z') := by
  have h1 := h.le
  have h2 := h.ge
  have h3 := h.lt1
  have h4 := h.lt2
  have h5 := h.gt1
  have h6 := h.gt2
  have k1 := h'.le
  have k2 := h'.ge
  have k3 := h'.lt1
  have k4 := h'.lt2
  have k5 := h'.gt1
  have k6 := h'.gt2
  unfold andC
  constructor <;> (split <;> split <;> split <;> omega)
set_option maxRecDepth 100000 in
theorem lex_alo {α : Type} {f : α → α → Int} : ∀ {xs ys zs : List α}, (∀ x ∈ xs, ∀ y ∈ ys, ∀ z ∈ zs, Alo (f x y) (f y z) (f x z)) → Alo (lex f xs ys) (lex f ys zs) (lex f xs zs)
  | [], [], [], _ => .zero
  | [], [], _ :: _, _ => by simp only [lex]; constructor <;> omega
  | [], _ :: _, [], _ => by simp only [lex]; constructor <;> omega
  | [], y :: ys, z :: zs, _ => by
    simp only [lex]
    constructor <;> omega
  | _ :: _, [], [], _ => by simp only [lex]; constructor <;> omega
  | x :: xs, [], z :: zs, _ => by
    simp only [lex]
    constructor <;> omega
  | x :: xs, y :: ys, [], _ => by
    simp only [lex]
    constructor <;> omega
  | x :: xs, y :: ys, z :: zs, h => andC_alo (h x (by simp) y (by simp) z (by simp)) (lex_alo fun a ha b hb c hc => h a (by simp [ha]) b (by simp [hb]) c (by simp [hc]))
set_option maxRecDepth 100000 in
theorem andC_eq {x y : Int} : andC x y = 0 ↔ x = 0 ∧ y = 0 := by
  unfold andC
  split
  · next h => simp [h]
  · next h => simp [h]
set_option maxRecDepth 100000 in
theorem lex_eq {α : Type} {f : α → α → Int} : ∀ {xs ys : List α}, (∀ x ∈ xs, ∀ y ∈ ys, f x y = 0 → x = y) → lex f xs ys = 0 → xs = ys
  | [], [], _, _ => rfl
  | [], _ :: _, _, h => by simp [lex] at h
  | _ :: _, [], _, h => by simp [lex] at h
  | x :: xs, y :: ys, k, h => by
    rw [lex, andC_eq] at h
    rw [k x (by simp) y (by simp) h.1, lex_eq (fun a ha b hb => k a (by simp [ha]) b (by simp [hb])) h.2]
set_option maxRecDepth 100000 in
theorem sg_self (a : Int) : sg a a = 0 := sg_eq.2 rfl
set_option maxRecDepth 100000 in
theorem lex_self {α : Type} {f : α → α → Int} : ∀ {xs : List α}, (∀ x ∈ xs, f x x = 0) → lex f xs xs = 0
  | [], _ => rfl
  | x :: xs, h => by rw [lex, andC_eq]; exact ⟨h x (by simp), lex_self fun a ha => h a (by simp [ha])⟩
end Od
end Go.Proofs.Ytmcfokeibecopaa

namespace Go.Proofs.Ytmcfokeibecopaa
open Go.RowKit
open Od

/-- A kind's class. -/
def cls (k : Int) : Int := if k = 1 ∨ k = 2 ∨ k = 3 then 1 else if k = 4 then 2 else if k = 5 then 3 else if k = 6 then 4 else if k = 7 then 5 else if k = 8 then 6 else if k = 9 then 7 else 0
/-- A number's key: where it stands among all: an integer just below the floats from it on. -/
noncomputable def zkey (z : Int) : List Int := [0, z, 0, 0]
noncomputable def fkey (b : Nat) : List Int := if Fl.nanB b then [1, 0, 0, 0] else [0, Fl.flr b, 1, keyZ b]
/-- What stands in a term beside its arguments. -/
noncomputable def Tm.leafKey (t : Tm) : List Int :=
  if t.kind = 1 then zkey t.num else if t.kind = 2 then zkey (sgn t.neg (Lm.val t.mag)) else if t.kind = 3 then fkey t.bits.toNat
  else if t.kind = 4 ∨ t.kind = 5 then [t.num] else if t.kind = 9 then t.bytes.toList.map (fun x => (x.toNat : Int)) else []
mutual
/-- How two terms stand. -/
noncomputable def Tm.cmpT : Tm → Tm → Int
  | .mk k n g l u s ks, b => andC (sg (cls k) (cls b.kind)) (andC (lex sg (Tm.leafKey (.mk k n g l u s ks)) b.leafKey) (andC (sg ks.length b.args.length) (Tm.lexT ks b.args)))
noncomputable def Tm.lexT : List Tm → List Tm → Int
  | [], [] => 0
  | [], _ :: _ => -1
  | _ :: _, [] => 1
  | x :: xs, y :: ys => andC (Tm.cmpT x y) (Tm.lexT xs ys)
end
set_option maxRecDepth 100000 in
theorem Tm.lexT_eq : ∀ (xs ys : List Tm), Tm.lexT xs ys = lex Tm.cmpT xs ys
  | [], [] => by rw [Tm.lexT, lex]
  | [], _ :: _ => by rw [Tm.lexT, lex]
  | _ :: _, [] => by rw [Tm.lexT, lex]
  | x :: xs, y :: ys => by rw [Tm.lexT, lex, Tm.lexT_eq xs ys]
set_option maxRecDepth 100000 in
theorem Tm.cmpT_eq (a b : Tm) : Tm.cmpT a b = andC (sg (cls a.kind) (cls b.kind)) (andC (lex sg a.leafKey b.leafKey) (andC (sg a.args.length b.args.length) (lex Tm.cmpT a.args b.args))) := by
  cases a
  rw [Tm.cmpT, Tm.lexT_eq]
  rfl

set_option maxRecDepth 100000 in
theorem Tm.cmpT_tri (a : Tm) : ∀ b, Tri (Tm.cmpT a b) := by
  induction a using Tm.ind with
  | h k n g l u s ks ih =>
    intro b
    rw [Tm.cmpT_eq]
    exact andC_tri (sg_tri _ _) (andC_tri (lex_tri fun _ _ _ _ => sg_tri _ _) (andC_tri (sg_tri _ _) (lex_tri fun x hx y _ => ih x hx y)))
set_option maxRecDepth 100000 in
theorem Tm.cmpT_anti (a : Tm) : ∀ b, Tm.cmpT b a = -Tm.cmpT a b := by
  induction a using Tm.ind with
  | h k n g l u s ks ih =>
    intro b
    rw [Tm.cmpT_eq, Tm.cmpT_eq]
    exact andC_anti (sg_anti _ _) (andC_anti (lex_anti fun _ _ _ _ => sg_anti _ _) (andC_anti (sg_anti _ _) (lex_anti fun x hx y _ => ih x hx y)))
set_option maxRecDepth 100000 in
theorem Tm.cmpT_alo (a : Tm) : ∀ b c, Alo (Tm.cmpT a b) (Tm.cmpT b c) (Tm.cmpT a c) := by
  induction a using Tm.ind with
  | h k n g l u s ks ih =>
    intro b c
    rw [Tm.cmpT_eq, Tm.cmpT_eq b c, Tm.cmpT_eq _ c]
    exact andC_alo (sg_alo _ _ _) (andC_alo (lex_alo fun _ _ _ _ _ _ => sg_alo _ _ _) (andC_alo (sg_alo _ _ _) (lex_alo fun x hx y _ z _ => ih x hx y z)))
set_option maxRecDepth 100000 in
theorem Tm.cmpT_self (a : Tm) : Tm.cmpT a a = 0 := by
  have := Tm.cmpT_anti a a
  omega

/-! ### Numbers by their keys -/
set_option maxRecDepth 100000 in
theorem cmpZ_sg (a b : Int) : cmpZ a b = sg a b := rfl
set_option maxRecDepth 100000 in
theorem zkey_z (z y : Int) : lex sg (zkey z) (zkey y) = cmpZ z y := by
  simp only [zkey, lex, sg_self, andC, if_true, cmpZ_sg]
  split
  · next h => exact h.symm
  · rfl
set_option maxRecDepth 100000 in
theorem ord_flr {a b : Nat} (h : Fl.si a ≤ Fl.si b) : Fl.flr a ≤ Fl.flr b := by
  have h1 := Fl.sv_lt_iff b a
  have h2 : Fl.sv a ≤ Fl.sv b := by omega
  exact Int.ediv_le_ediv (by have := Fl.U_pos; omega) h2
set_option maxRecDepth 100000 in
theorem zkey_f (z : Int) (b : Nat) : lex sg (zkey z) (fkey b) = cmpNumZ z b := by
  unfold fkey cmpNumZ
  cases Fl.nanB b with
  | true =>
    rw [if_pos rfl, if_pos rfl]
    simp [zkey, lex, andC, sg]
  | false =>
    rw [if_neg (by decide), if_neg (by decide)]
    simp only [zkey, lex, sg_self, andC, if_true]
    by_cases h : Fl.flr b < z
    · rw [if_pos h]
      have e : sg z (Fl.flr b) = 1 := by unfold sg; rw [if_neg (by omega), if_pos h]
      rw [e]; rfl
    · rw [if_neg h]
      by_cases h2 : z < Fl.flr b
      · have e : sg z (Fl.flr b) = -1 := by unfold sg; rw [if_pos h2]
        rw [e]; rfl
      · have e : sg z (Fl.flr b) = 0 := sg_eq.2 (by omega)
        rw [e]; rfl
set_option maxRecDepth 100000 in
theorem fkey_z (a : Nat) (y : Int) : lex sg (fkey a) (zkey y) = -cmpNumZ y a := by
  rw [← zkey_f, lex_anti fun _ _ _ _ => sg_anti _ _]
set_option maxRecDepth 100000 in
theorem key_si {a b : Nat} (ha : Fl.nanB a = false) (hb : Fl.nanB b = false) (h : keyZ a ≤ keyZ b) : Fl.si a ≤ Fl.si b := by
  rw [keyZ_num ha, keyZ_num hb] at h
  have key := fun h => @key_mono b a h
  by_cases hlt : Fl.si b < Fl.si a
  · have := key hlt; omega
  · omega
set_option maxRecDepth 100000 in
theorem fkey_f (a b : Nat) : lex sg (fkey a) (fkey b) = cmpN a b := by
  unfold fkey cmpN
  cases na : Fl.nanB a with
  | true =>
    cases nb : Fl.nanB b with
    | true => simp [keyZ_nan na, keyZ_nan nb, lex, andC, sg]
    | false =>
      have h := keyZ_lt nb
      rw [if_pos rfl, if_neg (by decide), keyZ_nan na, if_neg (by omega), if_pos h]
      simp [lex, andC, sg]
  | false =>
    cases nb : Fl.nanB b with
    | true =>
      have h := keyZ_lt na
      rw [if_pos rfl, if_neg (by decide), keyZ_nan nb, if_pos h]
      simp [lex, andC, sg]
    | false =>
      rw [if_neg (by decide), if_neg (by decide)]
      simp only [lex, sg_self, andC, if_true]
      by_cases h1 : keyZ a < keyZ b
      · have hf := ord_flr (key_si na nb (by omega))
        rw [if_pos h1]
        have e : sg (keyZ a) (keyZ b) = -1 := by unfold sg; rw [if_pos h1]
        rw [e]
        by_cases h2 : Fl.flr a = Fl.flr b
        · rw [sg_eq.2 h2]; rfl
        · have e2 : sg (Fl.flr a) (Fl.flr b) = -1 := by unfold sg; rw [if_pos (by omega)]
          rw [e2]; rfl
      · rw [if_neg h1]
        by_cases h3 : keyZ b < keyZ a
        · have hf := ord_flr (key_si nb na (by omega))
          rw [if_pos h3]
          have e : sg (keyZ a) (keyZ b) = 1 := by unfold sg; rw [if_neg h1, if_pos h3]
          rw [e]
          by_cases h2 : Fl.flr a = Fl.flr b
          · rw [sg_eq.2 h2]; rfl
          · have e2 : sg (Fl.flr a) (Fl.flr b) = 1 := by unfold sg; rw [if_neg (by omega), if_pos (by omega)]
            rw [e2]; rfl
        · have hf := ord_flr (key_si na nb (by omega))
          have hf' := ord_flr (key_si nb na (by omega))
          rw [if_neg h3, sg_eq.2 (show Fl.flr a = Fl.flr b by omega), sg_eq.2 (show keyZ a = keyZ b by omega)]
          rfl

/-! ### Bytes by their keys -/
set_option maxRecDepth 100000 in
theorem u8_lt {a b : UInt8} : a < b ↔ a.toNat < b.toNat := UInt8.lt_iff_toNat_lt
set_option maxRecDepth 100000 in
theorem bytes_sg : ∀ (x y : List UInt8), lex sg (x.map fun v => (v.toNat : Int)) (y.map fun v => (v.toNat : Int)) = if Op.bytesLess x y then -1 else if Op.bytesLess y x then 1 else 0
  | [], [] => by simp [lex, Op.bytesLess]
  | [], _ :: _ => by simp [lex, Op.bytesLess]
  | _ :: _, [] => by simp [lex, Op.bytesLess]
  | a :: x, b :: y => by
    have ih := bytes_sg x y
    have e1 : decide (a < b) = decide ((a.toNat : Int) < (b.toNat : Int)) := decide_eq_decide.2 (by rw [u8_lt]; omega)
    have e2 : decide (b < a) = decide ((b.toNat : Int) < (a.toNat : Int)) := decide_eq_decide.2 (by rw [u8_lt]; omega)
    have e3 : (a == b) = decide ((a.toNat : Int) = (b.toNat : Int)) := by
      rw [Bool.eq_iff_iff]
      simp only [beq_iff_eq, decide_eq_true_eq]
      constructor
      · intro h; rw [h]
      · intro h; exact UInt8.toNat_inj.1 (by omega)
    have e4 : (b == a) = decide ((a.toNat : Int) = (b.toNat : Int)) := by rw [← e3, Bool.eq_iff_iff]; simp only [beq_iff_eq]; exact eq_comm
    have l1 : Op.bytesLess (a :: x) (b :: y) = (decide ((a.toNat : Int) < (b.toNat : Int)) || decide ((a.toNat : Int) = (b.toNat : Int)) && Op.bytesLess x y) := by rw [Op.bytesLess, e1, e3]
    have l2 : Op.bytesLess (b :: y) (a :: x) = (decide ((b.toNat : Int) < (a.toNat : Int)) || decide ((a.toNat : Int) = (b.toNat : Int)) && Op.bytesLess y x) := by rw [Op.bytesLess, e2, e4]
    rw [l1, l2, List.map_cons, List.map_cons, lex, ih]
    clear e1 e2 e3 e4 l1 l2 ih
    generalize (a.toNat : Int) = p
    generalize (b.toNat : Int) = q
    generalize Op.bytesLess x y = r
    generalize Op.bytesLess y x = t
    by_cases h1 : p < q
    · have e : sg p q = -1 := by unfold sg; rw [if_pos h1]
      rw [e]; simp [andC, h1]
    · by_cases h2 : q < p
      · have e : sg p q = 1 := by unfold sg; rw [if_neg h1, if_pos h2]
        have : ¬ p = q := by omega
        rw [e]; simp [andC, h1, h2, this]
      · have e : p = q := by omega
        subst e
        rw [sg_self]; simp [andC]
end Go.Proofs.Ytmcfokeibecopaa

namespace Go.Proofs.Ytmcfokeibecopaa
open Go.RowKit
open Od

mutual
/-- All bits and limbs are such as a record can hold. -/
def Tm.Rng : Tm → Prop
  | .mk _ _ _ l u _ ks => U64 u ∧ Lm.Small l ∧ Tm.Rngs ks
def Tm.Rngs : List Tm → Prop
  | [] => True
  | t :: r => Tm.Rng t ∧ Tm.Rngs r
end
set_option maxRecDepth 100000 in
theorem Tm.rngs_iff {ts : List Tm} : Tm.Rngs ts ↔ ∀ t ∈ ts, Tm.Rng t := by
  induction ts with
  | nil => simp [Tm.Rngs]
  | cons t r ih => simp [Tm.Rngs, ih]
set_option maxRecDepth 100000 in
theorem Tm.rng_mk {k n : Int} {g : Bool} {l : List Nat} {u : Int} {s : ByteArray} {ks : List Tm} : Tm.Rng (.mk k n g l u s ks) ↔ U64 u ∧ Lm.Small l ∧ ∀ t ∈ ks, Tm.Rng t := by
  rw [Tm.Rng, Tm.rngs_iff]
set_option maxRecDepth 100000 in
theorem TV.rng {w : World} {r : TR} {t : Tm} (h : TV w r t) : t.Rng := by
  induction h with
  | mk r l ks V hf hm hs hk ih =>
    have h1 := hf.u1
    refine Tm.rng_mk.2 ⟨⟨hf.u0, by omega⟩, hf.lim.2.2.1, fun t ht => ?_⟩
    obtain ⟨i, hi⟩ := List.getElem?_of_mem ht
    exact ih i t hi

set_option maxRecDepth 100000 in
theorem Tm.ment_of {t : Tm} (h : Tm.alikeB t t.ment = true) : t = t.ment := by
  have ha := Tm.ment_args t
  have hl := (Tm.alike_kind h).2
  have hargs : t.args = t.ment.args := by
    rw [ha] at hl ⊢
    split
    · rfl
    · next hk => rw [if_neg hk] at hl; exact List.eq_nil_of_length_eq_zero hl
  unfold Tm.alikeB at h
  simp only [Bool.and_eq_true, beq_iff_eq, decide_eq_true_eq] at h
  obtain ⟨⟨⟨⟨⟨h1, h2⟩, h3⟩, h4⟩, h5⟩, h6, _⟩ := h
  have e : ∀ t : Tm, t = .mk t.kind t.num t.neg t.mag t.bits t.bytes t.args := fun t => by cases t; rfl
  exact (e t).trans (by rw [h1, h2, h3, h4, h5, h6, hargs]; exact (e t.ment).symm)
set_option maxRecDepth 100000 in
theorem Tm.form_ment {t : Tm} (h : t.formB = true) : t = t.ment := by
  rw [Tm.formB_eq, Bool.and_eq_true] at h
  exact Tm.ment_of h.1
set_option maxRecDepth 100000 in
theorem Tm.form_bound {t : Tm} (h : t.formB = true) : t.boundB = true ∧ ∀ x ∈ t.args, x.formB = true := by
  rw [Tm.formB_eq, Bool.and_eq_true, Bool.and_eq_true, Tm.formsB_iff] at h
  exact h.2

set_option maxRecDepth 100000 in
theorem ord_key_inj {a b : Int} (ua : U64 a) (ub : U64 b) (ca : cleanI a = a) (cb : cleanI b = b) (h : keyZ a.toNat = keyZ b.toNat) : a = b := by
  have nan : ∀ x : Int, cleanI x = x → Fl.nanB x.toNat = true → x = (Fl.NAN : Nat) := fun x hx hn => by
    rw [← hx]; unfold cleanI cleanN; rw [if_pos hn]
  cases na : Fl.nanB a.toNat with
  | true =>
    cases nb : Fl.nanB b.toNat with
    | true => rw [nan a ca na, nan b cb nb]
    | false => have := keyZ_lt nb; rw [keyZ_nan na] at h; omega
  | false =>
    cases nb : Fl.nanB b.toNat with
    | true => have := keyZ_lt na; rw [keyZ_nan nb] at h; omega
    | false =>
      have s1 := Fl.split_eq _ ua.nat
      have s2 := Fl.split_eq _ ub.nat
      have h1 := ua.1
      have h2 := ub.1
      unfold keyZ at h
      rw [na, nb] at h
      simp only [Bool.false_eq_true, if_false] at h
      cases g1 : Fl.ng a.toNat <;> cases g2 : Fl.ng b.toNat <;> rw [g1] at s1 h <;> rw [g2] at s2 h <;> simp only [Bool.false_eq_true, if_false, if_true] at s1 s2 h <;> omega
set_option maxRecDepth 100000 in
theorem fkey_inj {a b : Int} (ua : U64 a) (ub : U64 b) (ca : cleanI a = a) (cb : cleanI b = b) (h : fkey a.toNat = fkey b.toNat) : a = b := by
  refine ord_key_inj ua ub ca cb ?_
  unfold fkey at h
  cases na : Fl.nanB a.toNat with
  | true =>
    cases nb : Fl.nanB b.toNat with
    | true => rw [keyZ_nan na, keyZ_nan nb]
    | false => rw [na, nb] at h; simp at h
  | false =>
    cases nb : Fl.nanB b.toNat with
    | true => rw [na, nb] at h; simp at h
    | false => rw [na, nb] at h; simp at h; exact h.2
set_option maxRecDepth 100000 in
theorem fkey_ne_zkey (b : Nat) (z : Int) : fkey b ≠ zkey z := by
  unfold fkey zkey
  split <;> simp
set_option maxRecDepth 100000 in
theorem sgn_inj {g g' : Bool} {l l' : List Nat} (hl : Lm.Small l) (hl' : Lm.Small l') (hm : mayB g l = true) (hm' : mayB g' l' = true) (h : sgn g (Lm.val l) = sgn g' (Lm.val l')) : g = g' ∧ l = l' := by
  have d := Lm.digits_val hl (mayB_canon hm)
  have d' := Lm.digits_val hl' (mayB_canon hm')
  have ev : Lm.val l = Lm.val l' := by rw [← natAbs_sgn g (Lm.val l), h, natAbs_sgn]
  refine ⟨?_, by rw [← d, ← d', ev]⟩
  cases g <;> cases g'
  · rfl
  · have := val_pos_of_neg hm' hl'; simp [sgn] at h; omega
  · have := val_pos_of_neg hm hl; simp [sgn] at h; omega
  · rfl
set_option maxRecDepth 100000 in
theorem map_inj {x y : List UInt8} (h : x.map (fun v => (v.toNat : Int)) = y.map (fun v => (v.toNat : Int))) : x = y :=
  List.map_inj_right (f := fun v : UInt8 => (v.toNat : Int)) (fun a b e => UInt8.toNat_inj.1 (by have e' : ((a.toNat : Nat) : Int) = (b.toNat : Nat) := e; omega)) |>.1 h

set_option maxRecDepth 100000 in
theorem Tm.bound_kind {t : Tm} (h : t.boundB = true) : t.kind = 1 ∨ t.kind = 2 ∨ t.kind = 3 ∨ t.kind = 4 ∨ t.kind = 5 ∨ t.kind = 6 ∨ t.kind = 7 ∨ t.kind = 8 ∨ t.kind = 9 := by
  unfold Tm.boundB at h
  by_cases h1 : t.kind = 1 ∨ t.kind = 2 ∨ t.kind = 3 ∨ t.kind = 4 ∨ t.kind = 5 ∨ t.kind = 6 ∨ t.kind = 7 ∨ t.kind = 8 ∨ t.kind = 9
  · exact h1
  · rw [if_neg (by omega), if_neg (by omega), if_neg (by omega), if_neg (by omega), if_neg (by omega), if_neg (by omega), if_neg (by omega), if_neg (by omega), if_neg (by omega)] at h
    cases h

set_option maxRecDepth 100000 in
theorem small_ne {n : Int} {g g' : Bool} {l l' : List Nat} {u u' : Int} {s s' : ByteArray} {ks ks' : List Tm} {n' : Int} (q1 : Tm.boundB (.mk 1 n g l u s ks) = true) (q2 : Tm.boundB (.mk 2 n' g' l' u' s' ks') = true) : n ≠ sgn g' (Lm.val l') := by
  intro q
  have q1' : smallB n = true := q1
  have q2' : (mayB g' l' && !smOk g' l') = true := q2
  rw [q] at q1'
  unfold smOk at q2'
  rw [q1'] at q2'
  cases hm : mayB g' l' <;> rw [hm] at q2' <;> cases q2'

set_option maxRecDepth 100000 in
set_option maxHeartbeats 2000000 in
/-- Terms that may be, and stand at one place, are one. -/
theorem Tm.cmpT_zero (a : Tm) : ∀ b : Tm, a.formB = true → b.formB = true → a.Rng → b.Rng → Tm.cmpT a b = 0 → a = b := by
  induction a using Tm.ind with
  | h k n g l u s ks ih =>
    intro b fa fb ra rb h
    obtain ⟨k', n', g', l', u', s', ks'⟩ := b
    rw [Tm.cmpT_eq, andC_eq, andC_eq, andC_eq, sg_eq, sg_eq] at h
    obtain ⟨hc, hk, hl, hx⟩ := h
    have hkey := lex_eq (fun x _ y _ e => sg_eq.1 e) hk
    have ma := Tm.form_ment fa
    have mb := Tm.form_ment fb
    obtain ⟨ba, fka⟩ := Tm.form_bound fa
    obtain ⟨bb, fkb⟩ := Tm.form_bound fb
    obtain ⟨ua, la, rka⟩ := Tm.rng_mk.1 ra
    obtain ⟨ub, lb, rkb⟩ := Tm.rng_mk.1 rb
    have hargs : ks = ks' := lex_eq (fun x hx y hy e => ih x hx y (fka x hx) (fkb y hy) (rka x hx) (rkb y hy) e) hx
    subst hargs
    have ka := Tm.bound_kind ba
    have kb := Tm.bound_kind bb
    simp only [Tm.kind] at hc ka kb
    have hkk : k = k' ∨ ((k = 1 ∨ k = 2 ∨ k = 3) ∧ (k' = 1 ∨ k' = 2 ∨ k' = 3)) := by
      rcases ka with rfl | rfl | rfl | rfl | rfl | rfl | rfl | rfl | rfl <;> rcases kb with rfl | rfl | rfl | rfl | rfl | rfl | rfl | rfl | rfl <;> first | (exact .inl rfl) | (exact .inr ⟨by omega, by omega⟩) | (exact absurd hc (by decide))
    by_cases e : k = k'
    · subst e
      rcases ka with rfl | rfl | rfl | rfl | rfl | rfl | rfl | rfl | rfl
      · simp [Tm.ment] at ma mb
        simp [Tm.leafKey, Tm.kind, Tm.num, zkey] at hkey
        obtain ⟨rfl, rfl, rfl, rfl, _⟩ := ma
        obtain ⟨rfl, rfl, rfl, rfl, _⟩ := mb
        rw [hkey]
      · simp [Tm.ment] at ma mb
        simp [Tm.leafKey, Tm.kind, Tm.neg, Tm.mag, zkey] at hkey
        simp [Tm.boundB, Tm.kind, Tm.neg, Tm.mag] at ba bb
        obtain ⟨rfl, rfl, rfl, _⟩ := ma
        obtain ⟨rfl, rfl, rfl, _⟩ := mb
        obtain ⟨rfl, rfl⟩ := sgn_inj la lb ba.1 bb.1 hkey
        rfl
      · simp [Tm.ment] at ma mb
        simp [Tm.leafKey, Tm.kind, Tm.bits] at hkey
        simp [Tm.boundB, Tm.kind, Tm.bits] at ba bb
        obtain ⟨rfl, rfl, rfl, rfl, _⟩ := ma
        obtain ⟨rfl, rfl, rfl, rfl, _⟩ := mb
        rw [fkey_inj ua ub ba bb hkey]
      · simp [Tm.ment] at ma mb
        simp [Tm.leafKey, Tm.kind, Tm.num] at hkey
        obtain ⟨rfl, rfl, rfl, rfl, _⟩ := ma
        obtain ⟨rfl, rfl, rfl, rfl, _⟩ := mb
        rw [hkey]
      · simp [Tm.ment] at ma mb
        simp [Tm.leafKey, Tm.kind, Tm.num] at hkey
        obtain ⟨rfl, rfl, rfl, rfl, _⟩ := ma
        obtain ⟨rfl, rfl, rfl, rfl, _⟩ := mb
        rw [hkey]
      · simp [Tm.ment] at ma mb
        obtain ⟨rfl, rfl, rfl, rfl, rfl⟩ := ma
        obtain ⟨rfl, rfl, rfl, rfl, rfl⟩ := mb
        rfl
      · simp [Tm.ment] at ma mb
        obtain ⟨rfl, rfl, rfl, rfl, rfl, _⟩ := ma
        obtain ⟨rfl, rfl, rfl, rfl, rfl, _⟩ := mb
        rfl
      · simp [Tm.ment] at ma mb
        obtain ⟨rfl, rfl, rfl, rfl, rfl⟩ := ma
        obtain ⟨rfl, rfl, rfl, rfl, rfl⟩ := mb
        rfl
      · simp [Tm.ment] at ma mb
        simp [Tm.leafKey, Tm.kind, Tm.bytes] at hkey
        obtain ⟨rfl, rfl, rfl, rfl, _⟩ := ma
        obtain ⟨rfl, rfl, rfl, rfl, _⟩ := mb
        have hs : s = s' := Classical.byContradiction fun hn => toList_ne hn (map_inj hkey)
        rw [hs]
    · exfalso
      obtain ⟨h1, h2⟩ := hkk.resolve_left e
      rcases h1 with rfl | rfl | rfl <;> rcases h2 with rfl | rfl | rfl
      · exact e rfl
      · simp [Tm.leafKey, Tm.kind, Tm.num, Tm.neg, Tm.mag, zkey] at hkey
        exact small_ne ba bb hkey
      · simp [Tm.leafKey, Tm.kind, Tm.num, Tm.bits] at hkey
        exact fkey_ne_zkey _ _ hkey.symm
      · simp [Tm.leafKey, Tm.kind, Tm.num, Tm.neg, Tm.mag, zkey] at hkey
        exact small_ne bb ba hkey.symm
      · exact e rfl
      · simp [Tm.leafKey, Tm.kind, Tm.neg, Tm.mag, Tm.bits] at hkey
        exact fkey_ne_zkey _ _ hkey.symm
      · simp [Tm.leafKey, Tm.kind, Tm.num, Tm.bits] at hkey
        exact fkey_ne_zkey _ _ hkey
      · simp [Tm.leafKey, Tm.kind, Tm.neg, Tm.mag, Tm.bits] at hkey
        exact fkey_ne_zkey _ _ hkey
      · exact e rfl
end Go.Proofs.Ytmcfokeibecopaa

namespace Go.Proofs.Ytmcfokeibecopaa
open Go.RowKit
open Od

/-- The terms rise. -/
def Rise (ts : List Tm) : Prop := ts.Pairwise fun a b => Tm.cmpT a b ≤ 0
/-- Row ts with t put in at k: all from k on are above t, and what stands before is not. -/
structure PutAt (t : Tm) (ts : List Tm) (k : Nat) : Prop where
  le : k ≤ ts.length
  above : ∀ x ∈ ts.drop k, Tm.cmpT t x < 0
  below : ∀ x, ts[k - 1]? = some x → 0 < k → ¬ Tm.cmpT t x < 0
set_option maxRecDepth 100000 in
theorem PutAt.rise {t : Tm} {ts : List Tm} {k : Nat} (h : PutAt t ts k) (hr : Rise ts) : Rise (ts.take k ++ t :: ts.drop k) := by
  have e : ts.take k ++ ts.drop k = ts := List.take_append_drop k ts
  unfold Rise at hr ⊢
  rw [← e, List.pairwise_append] at hr
  obtain ⟨h1, h2, h3⟩ := hr
  rw [List.pairwise_append]
  have hb : ∀ x ∈ ts.take k, Tm.cmpT x t ≤ 0 := by
    intro x hx
    have hk : 0 < k := by
      rcases Nat.eq_zero_or_pos k with h0 | h0
      · subst h0; simp at hx
      · exact h0
    have hle := h.le
    have hlt : k - 1 < ts.length := by omega
    have hz := h.below (ts[k - 1]) (List.getElem?_eq_getElem hlt) hk
    have hxz : Tm.cmpT x ts[k - 1] ≤ 0 := by
      have e2 : ts.take k = ts.take (k - 1) ++ [ts[k - 1]] := by
        have := List.take_append_getElem hlt
        rw [show k - 1 + 1 = k by omega] at this
        exact this.symm
      rw [e2] at hx h1
      rw [List.pairwise_append] at h1
      rcases List.mem_append.1 hx with hx | hx
      · exact h1.2.2 x hx _ (by simp)
      · simp at hx; rw [hx, Tm.cmpT_self]; omega
    have ha := Tm.cmpT_anti t ts[k - 1]
    have := (Tm.cmpT_alo x ts[k - 1] t).le hxz (by omega)
    exact this
  refine ⟨h1, ?_, ?_⟩
  · rw [List.pairwise_cons]
    exact ⟨fun x hx => by have := h.above x hx; omega, h2⟩
  · intro x hx y hy
    rcases List.mem_cons.1 hy with rfl | hy
    · exact hb x hx
    · exact h3 x hx y hy
set_option maxRecDepth 100000 in
theorem PutAt.perm {t : Tm} {ts : List Tm} {k : Nat} : (ts.take k ++ t :: ts.drop k).Perm (t :: ts) := by
  have := (List.perm_middle (a := t) (l₁ := ts.take k) (l₂ := ts.drop k))
  rw [List.take_append_drop] at this
  exact this
set_option maxRecDepth 100000 in
/-- There is but one row that rises, where those that stand at one place are one. -/
theorem Rise.one {xs ys : List Tm} (hx : Rise xs) (hy : Rise ys) (hp : xs.Perm ys) (h : ∀ a ∈ xs, ∀ b ∈ xs, Tm.cmpT a b = 0 → a = b) : xs = ys := by
  refine List.Perm.eq_of_pairwise (le := fun a b => Tm.cmpT a b ≤ 0) ?_ hx hy hp
  intro a b ha hb h1 h2
  have := Tm.cmpT_anti a b
  exact h a ha b (hp.mem_iff.2 hb) (by omega)
set_option maxRecDepth 100000 in
theorem one_of_form {xs : List Tm} (hf : ∀ t ∈ xs, t.formB = true) (hr : ∀ t ∈ xs, t.Rng) : ∀ a ∈ xs, ∀ b ∈ xs, Tm.cmpT a b = 0 → a = b :=
  fun a ha b hb h => Tm.cmpT_zero a b (hf a ha) (hf b hb) (hr a ha) (hr b hb) h
end Go.Proofs.Ytmcfokeibecopaa
