/-
  WORDS: the reference's functions.
  THE REFERENCE's LOOK: small, box.
  PLAIN MATHEMATICS OF TERMS: trees, how heavy they are, how many parts they have. Nothing of the program stands here.
-/
import Derived.Test.YtejmmjedognaaaaQ4
namespace Go.Proofs.Ytejmmjedognaaaa
open Go.RowKit

set_option maxRecDepth 100000 in
theorem mk_ref {t l : Int} (h : pmB t l = true) : IntKind.u64.wrap (IntKind.u64.wrap (IntKind.u64.wrap l * 8) + IntKind.u64.wrap t) = mkZ t l := by
  have h0 := pm_in h
  simp only [IntKind.wrap_u64]
  unfold mkZ
  omega

set_option maxRecDepth 100000 in
set_option maxHeartbeats 400000 in
theorem refHead_any (k s : Int) (W : World) : Calls Try.prog 6 #[.int .i64 k, .int .i64 s] W fun e W' => e = .returned (.tuple #[.int .u64 (if hdB k s then hdZ k s else 0), .bool (hdB k s)]) ∧ W = W' := by
  by_cases h1 : k < 0
  · have fin : hdB k s = false := by unfold hdB; simp [show ¬ (0 ≤ k) by omega]
    rw [fin]
    clear fin
    go_enter Try.func6, Try.ntmps6
    go_wp2
    go_ret2
    exact ⟨rfl, rfl⟩
  by_cases h2 : k > 5
  · have fin : hdB k s = false := by unfold hdB; simp [show ¬ (k ≤ 5) by omega]
    rw [fin]
    clear fin
    go_enter Try.func6, Try.ntmps6
    go_wp2
    go_ret2
    exact ⟨rfl, rfl⟩
  by_cases h3 : s < 0
  · have fin : hdB k s = false := by unfold hdB; simp [show ¬ (0 ≤ s) by omega]
    rw [fin]
    clear fin
    go_enter Try.func6, Try.ntmps6
    go_wp2
    go_ret2
    exact ⟨rfl, rfl⟩
  by_cases h4 : s > 1048576
  · have fin : hdB k s = false := by unfold hdB; simp [show ¬ (s ≤ 1048576) by omega]
    rw [fin]
    clear fin
    go_enter Try.func6, Try.ntmps6
    go_wp2
    go_ret2
    exact ⟨rfl, rfl⟩
  have fin : hdB k s = true := by unfold hdB; simp [show 0 ≤ k by omega, show k ≤ 5 by omega, show 0 ≤ s by omega, show s ≤ 1048576 by omega]
  rw [fin]
  clear fin
  go_enter Try.func6, Try.ntmps6
  go_wp2
  go_ret2
  exact ⟨rfl, rfl⟩

/-- Make's bounds. -/
def loZ (t : Int) : Int := if t = 0 then -1152921504606846976 else 0
def hiZ (t : Int) : Int := if t = 3 then 0 else if t = 1 then 255 else if t = 2 then 63 else 1152921504606846975
set_option maxRecDepth 100000 in
theorem pm_lohi (t l : Int) : pmB t l = (decide (0 ≤ t) && decide (t ≤ 7) && decide (loZ t ≤ l) && decide (l ≤ hiZ t)) := by
  rw [Bool.eq_iff_iff]
  unfold pmB loZ hiZ
  by_cases e0 : t = 0
  · subst e0; simp
  by_cases e1 : t = 1
  · subst e1; simp
  by_cases e2 : t = 2
  · subst e2; simp
  by_cases e3 : t = 3
  · subst e3; simp; omega
  simp [e0, e1, e2, e3]
  omega

set_option maxRecDepth 100000 in
theorem ptR (w : Int) : ptB w = (hdB (w / 8 % 8) (w / 64) && decide (hdZ (w / 8 % 8) (w / 64) = w)) := by
  unfold ptB
  by_cases e : w % 8 = 6
  · rw [decide_eq_true e, decide_eq_true (by unfold hdZ; omega), Bool.and_true, Bool.true_and]
  · rw [decide_eq_false e, decide_eq_false (by unfold hdZ; omega), Bool.and_false, Bool.false_and]

end Go.Proofs.Ytejmmjedognaaaa

namespace Go.Proofs.Ytejmmjedognaaaa
open Go.RowKit
open St

def smlZ (w most : Int) : Int := if most < w then -1 else w
/-- The object that a word with TagBox leads to: its kind, its words. -/
def boxZ (x : Int) : List Int → Option (Int × List Int)
  | [] => none
  | h :: t => if x % 8 = 4 ∧ ptB h = true ∧ h / 64 ≤ (t.length : Int) then some (h / 8 % 8, t.take (h / 64).toNat) else none
def boxO (gs : List Frg) (x : Int) : Option (Int × List Int) := boxZ x (atL gs (ldZ x))
def BoxP (w : World) (gs : List Frg) (x : Int) (e : Ending) (w' : World) : Prop :=
  ((boxO gs x = none ∧ e = .returned (.tuple #[.int .i64 0, .slice none 0 0, .bool false])) ∨
    ∃ k ws A n c, boxO gs x = some (k, ws) ∧ e = .returned (.tuple #[.int .i64 k, .slice A n c, .bool true]) ∧ Zs .u64 w' A n c ws ∧ 0 ≤ k ∧ k ≤ 5) ∧ Below w.heap.size w w'

set_option maxRecDepth 100000 in
theorem ldZ_in {x : Int} (h : Wd x) : -9223372036854775808 ≤ ldZ x ∧ ldZ x ≤ 9223372036854775807 := by
  unfold Wd at h
  unfold ldZ
  split
  · split <;> omega
  · omega

end Go.Proofs.Ytejmmjedognaaaa

namespace Go.Proofs.Ytejmmjedognaaaa

/-- A term: its kind, number, sign, limbs, bits, bytes, arguments. -/
inductive Tm where
  | mk (k n : Int) (g : Bool) (l : List Nat) (u : Int) (s : ByteArray) (ks : List Tm)
namespace Tm
instance : Inhabited Tm := ⟨.mk 0 0 false [] 0 ⟨#[]⟩ []⟩

def kind : Tm → Int | .mk k _ _ _ _ _ _ => k
def num : Tm → Int | .mk _ n _ _ _ _ _ => n
def neg : Tm → Bool | .mk _ _ g _ _ _ _ => g
def mag : Tm → List Nat | .mk _ _ _ l _ _ _ => l
def bits : Tm → Int | .mk _ _ _ _ u _ _ => u
def bytes : Tm → ByteArray | .mk _ _ _ _ _ s _ => s
def args : Tm → List Tm | .mk _ _ _ _ _ _ ks => ks

set_option maxRecDepth 100000 in
/-- Induction over terms. -/
theorem ind {P : Tm → Prop} (h : ∀ k n g l u s ks, (∀ t ∈ ks, P t) → P (.mk k n g l u s ks)) : ∀ t, P t
  | .mk k n g l u s ks => h k n g l u s ks (go ks)
where go : ∀ ks : List Tm, ∀ t ∈ ks, P t
  | [], _, hm => nomatch hm
  | a :: r, t, hm => by
    rcases List.mem_cons.1 hm with e | hm
    · rw [e]; exact ind h a
    · exact go r t hm

mutual
/-- How heavy a term is. -/
def wt : Tm → Nat
  | .mk k _ _ l _ s ks => if k = 2 then 1 + l.length else if k = 9 then 1 + s.size / 8 else if k = 6 ∨ k = 8 then 1 + wts ks else 1
def wts : List Tm → Nat
  | [] => 0
  | t :: r => wt t + wts r
end
set_option maxRecDepth 100000 in
theorem wts_append (a b : List Tm) : wts (a ++ b) = wts a + wts b := by
  induction a with
  | nil => simp [wts]
  | cons t r ih => simp [wts, ih]; omega
set_option maxRecDepth 100000 in
theorem wts_take_succ {ts : List Tm} {i : Nat} {t : Tm} (h : ts[i]? = some t) : wts (ts.take (i + 1)) = wts (ts.take i) + wt t := by
  rw [List.take_add_one, h, wts_append]
  simp [wts]
set_option maxRecDepth 100000 in
theorem wt_pos (t : Tm) : 1 ≤ t.wt := by
  cases t
  rw [wt]
  split
  · omega
  split
  · omega
  split <;> omega
set_option maxRecDepth 100000 in
theorem wts_take_le (ts : List Tm) (i : Nat) : wts (ts.take i) ≤ wts ts := by
  have := wts_append (ts.take i) (ts.drop i)
  rw [List.take_append_drop] at this
  omega
set_option maxRecDepth 100000 in
theorem wts_len (ts : List Tm) : ts.length ≤ wts ts := by
  induction ts with
  | nil => simp [wts]
  | cons t r ih => have := wt_pos t; simp [wts]; omega

mutual
/-- No part has too many bytes or limbs. -/
def Ok : Tm → Prop
  | .mk _ _ _ l _ s ks => l.length ≤ 300 ∧ s.size ≤ 65535 ∧ Oks ks
def Oks : List Tm → Prop
  | [] => True
  | t :: r => Ok t ∧ Oks r
end
set_option maxRecDepth 100000 in
theorem oks_iff {ts : List Tm} : Oks ts ↔ ∀ t ∈ ts, Ok t := by
  induction ts with
  | nil => simp [Oks]
  | cons t r ih => simp [Oks, ih]
set_option maxRecDepth 100000 in
theorem ok_mk {k n : Int} {g : Bool} {l : List Nat} {u : Int} {s : ByteArray} {ks : List Tm} : Ok (.mk k n g l u s ks) ↔ l.length ≤ 300 ∧ s.size ≤ 65535 ∧ ∀ t ∈ ks, Ok t := by
  rw [Ok, oks_iff]

/-- Has a term itself too many bytes or limbs? -/
def big : Tm → Bool | .mk _ _ _ l _ s _ => decide (1000 < s.size) || decide (40 < l.length)
mutual
/-- How many parts the arguments of a term have, as far as so many. -/
def prt : Tm → Int → Int
  | .mk _ _ _ _ _ _ ks, most => prts ks 0 most
def prts : List Tm → Int → Int → Int
  | [], n, _ => n
  | t :: r, n, most => if n ≤ most then if big t then most + 1 else prts r (n + 1 + prt t (most - n - 1)) most else n
end

/-- How many parts a term has, itself among them. -/
def size : Tm → Nat
  | .mk _ _ _ _ _ _ ks => 1 + sizes ks
where sizes : List Tm → Nat
  | [] => 0
  | t :: r => size t + sizes r

set_option maxRecDepth 100000 in
theorem prts_bound (ts : List Tm) (h : ∀ t ∈ ts, ∀ most, -1 ≤ most → 0 ≤ prt t most ∧ prt t most ≤ most + 1) :
    ∀ n most : Int, 0 ≤ n → n ≤ most + 1 → n ≤ prts ts n most ∧ prts ts n most ≤ most + 1 := by
  induction ts with
  | nil => intro n most _ h1; simp only [prts]; omega
  | cons t r ih =>
    intro n most h0 h1
    simp only [prts]
    split
    · split
      · omega
      · have hp := h t List.mem_cons_self (most - n - 1) (by omega)
        have := ih (fun x hx => h x (List.mem_cons_of_mem _ hx)) (n + 1 + prt t (most - n - 1)) most (by omega) (by omega)
        omega
    · omega
set_option maxRecDepth 100000 in
theorem prt_bound (t : Tm) : ∀ most : Int, -1 ≤ most → 0 ≤ prt t most ∧ prt t most ≤ most + 1 := by
  induction t using ind with
  | h k n g l u s ks ih =>
    intro most hm
    rw [prt]
    exact prts_bound ks ih 0 most (by omega) (by omega)
set_option maxRecDepth 100000 in
theorem prts_bd (ts : List Tm) (n most : Int) (h0 : 0 ≤ n) (h1 : n ≤ most + 1) : n ≤ prts ts n most ∧ prts ts n most ≤ most + 1 :=
  prts_bound ts (fun t _ => prt_bound t) n most h0 h1

set_option maxRecDepth 100000 in
theorem prts_fine (ts : List Tm) (h : ∀ t ∈ ts, ∀ most : Int, prt t most ≤ most → -1 ≤ most → (∀ x ∈ t.args, Ok x) ∧ (t.size : Int) ≤ prt t most + 1) :
    ∀ n most : Int, 0 ≤ n → prts ts n most ≤ most → n + (size.sizes ts : Nat) ≤ prts ts n most ∧ ∀ t ∈ ts, Ok t := by
  induction ts with
  | nil => intro n most _ _; simp [prts, size.sizes]
  | cons t r ih =>
    intro n most h0 h1
    simp only [prts] at h1 ⊢
    by_cases hn : n ≤ most
    · rw [if_pos hn] at h1 ⊢
      by_cases hb : big t = true
      · rw [if_pos hb] at h1; omega
      · rw [if_neg hb] at h1 ⊢
        have hp := prt_bound t (most - n - 1) (by omega)
        have hbd := prts_bd r (n + 1 + prt t (most - n - 1)) most (by omega) (by omega)
        obtain ⟨i1, i2⟩ := ih (fun x hx => h x (List.mem_cons_of_mem _ hx)) _ most (by omega) h1
        obtain ⟨j1, j2⟩ := h t List.mem_cons_self (most - n - 1) (by omega) (by omega)
        refine ⟨by simp only [size.sizes]; omega, fun x hx => ?_⟩
        rcases List.mem_cons.1 hx with rfl | hx
        · cases x with
          | mk k n g l u s ks =>
            simp [big] at hb
            rw [ok_mk]
            exact ⟨by omega, by omega, j1⟩
        · exact i2 x hx
    · rw [if_neg hn] at h1; omega
set_option maxRecDepth 100000 in
theorem prt_fine (t : Tm) : ∀ most : Int, prt t most ≤ most → -1 ≤ most → (∀ x ∈ t.args, Ok x) ∧ (t.size : Int) ≤ prt t most + 1 := by
  induction t using ind with
  | h k n g l u s ks ih =>
    intro most h1 h2
    rw [prt] at h1 ⊢
    obtain ⟨i1, i2⟩ := prts_fine ks ih 0 most (by omega) h1
    refine ⟨i2, ?_⟩
    rw [size]
    omega
set_option maxRecDepth 100000 in
/-- Of terms that are not more than is gone through each one is modest, and there are not too many. -/
theorem fine {ts : List Tm} {most : Int} (h : prts ts 0 most ≤ most) : (size.sizes ts : Int) ≤ most ∧ ∀ t ∈ ts, Ok t := by
  obtain ⟨i1, i2⟩ := prts_fine ts (fun t _ => prt_fine t) 0 most (by omega) h
  exact ⟨by omega, i2⟩
set_option maxRecDepth 100000 in
theorem size_pos (t : Tm) : 1 ≤ t.size := by cases t; rw [size]; omega
set_option maxRecDepth 100000 in
theorem sizes_len (ts : List Tm) : ts.length ≤ size.sizes ts := by
  induction ts with
  | nil => simp
  | cons t r ih => have := size_pos t; simp [size.sizes]; omega

set_option maxRecDepth 100000 in
theorem prts_append (a b : List Tm) : ∀ n most : Int, prts (a ++ b) n most = if prts a n most ≤ most then prts b (prts a n most) most else prts a n most := by
  induction a with
  | nil =>
    intro n most
    have e : prts [] n most = n := by rw [prts]
    rw [e, List.nil_append]
    by_cases hn : n ≤ most
    · rw [if_pos hn]
    · rw [if_neg hn]
      cases b with
      | nil => exact e
      | cons t r => rw [prts, if_neg hn]
  | cons t r ih =>
    intro n most
    by_cases hn : n ≤ most
    · by_cases hb : big t = true
      · have e : prts (t :: r) n most = most + 1 := by rw [prts, if_pos hn, if_pos hb]
        rw [e, List.cons_append, prts, if_pos hn, if_pos hb, if_neg (by omega)]
      · have e : prts (t :: r) n most = prts r (n + 1 + prt t (most - n - 1)) most := by rw [prts, if_pos hn, if_neg hb]
        rw [e, List.cons_append, prts, if_pos hn, if_neg hb]
        exact ih _ _
    · have e : prts (t :: r) n most = n := by rw [prts, if_neg hn]
      rw [e, List.cons_append, prts, if_neg hn, if_neg hn]

end Tm
end Go.Proofs.Ytejmmjedognaaaa
