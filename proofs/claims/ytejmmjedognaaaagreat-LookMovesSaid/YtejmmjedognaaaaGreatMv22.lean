/-
  LOOK: what a word leads to, and what it stands for: plain mathematics over regions. Nothing of the program stands here.
  PACKAGE look: behind; regions that lie apart: from.
  REGIONS THAT LIE APART, no Go.
-/
import Derived.Test.YtejmmjedognaaaaGreatMv21
import Derived.Test.YtejmmjedognaaaaGreatMv19
namespace Go.Proofs.YtejmmjedognaaaaGreat
open Go.RowKit
open St

/-- The object that a word leads to, if it lies within its region. -/
def outO (gs : List Frg) (x : Int) : Option (Int × List Int) :=
  if x % 8 = 5 then (if (atL gs (ldZ x)).length < 2 then none else some (-1, (atL gs (ldZ x)).take 2)) else boxO gs x

def bgl : List Int → List Nat
  | [] => []
  | w :: ws => (w % 4294967296).toNat :: (w / 4294967296).toNat :: bgl ws
def bgM (l : List Nat) : List Nat := if l.getLast? = some 0 then l.dropLast else l
def bgT (ws : List Int) : Tm := .mk 2 0 (decide (ws.getD 0 0 = 1)) (bgM (bgl (ws.drop 1))) 0 ⟨#[]⟩ []
def bgB (ws : List Int) : Bool := (decide (2 ≤ ws.length) && decide (ws.length ≤ 5)) && (decide (ws.getD 0 0 ≤ 1) && (bgT ws).mayB)
def flT (u : Int) : Tm := .mk 3 0 false [] u ⟨#[]⟩ []
def biT (s : ByteArray) : Tm := .mk 9 0 false [] 0 s []
def nuT (k n : Int) : Tm := .mk k n false [] 0 ⟨#[]⟩ []
def ndT (k : Int) (ts : List Tm) : Tm := .mk (if k = -1 then 8 else 6) 0 false [] 0 ⟨#[]⟩ ts
set_option maxRecDepth 100000 in
theorem bgl_len (ws : List Int) : (bgl ws).length = ws.length * 2 := by
  induction ws with
  | nil => rfl
  | cons a ws ih => simp only [bgl, List.length_cons, ih]; omega
set_option maxRecDepth 100000 in
theorem bgM_len (l : List Nat) : (bgM l).length ≤ l.length := by
  unfold bgM
  split
  · simp
  · omega

/-- Is an object formed? -/
def formO (gs : List Frg) (k : Int) (ws : List Int) : Bool :=
  if k = -1 then true else if k = 0 then decide (ws.length ≤ 8) else if k = 1 then bgB ws
  else if k = 2 then decide (ws.length = 1) && (cleanI (ws.getD 0 0) == ws.getD 0 0)
  else if k = 3 then (byR [] false 3 ws).2.2 else if k = 4 then (byR [] false 4 ws).2.2
  else if k = 5 then (subR gs [] false ws).2 else false
/-- The object that a word leads to, if it is formed. -/
def objO (gs : List Frg) (x : Int) : Option (Int × List Int) :=
  match outO gs x with
  | none => none
  | some (k, ws) => if formO gs k ws then some (k, ws) else none
/-- The bytes of an object, if they are to be had. -/
def txO (gs : List Frg) (S : List Slt) (k : Int) (ws : List Int) : ByteArray × Bool :=
  if k = 5 then subR gs S true ws else ((byR S true k ws).1, (byR S true k ws).2.2)
/-- The term of an object that holds no others. -/
def lfO (gs : List Frg) (S : List Slt) (k : Int) (ws : List Int) : Option Tm :=
  if k = 1 then some (bgT ws) else if k = 2 then some (flT (ws.getD 0 0)) else if (txO gs S k ws).2 then some (biT (txO gs S k ws).1) else none

def rdA (f : Int → Option Tm) : List Int → Option (List Tm)
  | [] => some []
  | x :: ws => match f x, rdA f ws with
    | some t, some ts => some (t :: ts)
    | _, _ => none
/-- The term that a word stands for, of so many levels at most. -/
def rdF (gs : List Frg) (S : List Slt) : Nat → Int → Option Tm
  | 0, _ => none
  | n + 1, x =>
    if plB x = false then none else if x % 8 = 0 then some (nuT 1 (ldZ x)) else if x % 8 = 1 then some (nuT 4 (ldZ x))
    else if x % 8 = 2 then some (nuT 5 (ldZ x)) else if x % 8 = 3 then some (nuT 7 0)
    else match objO gs x with
      | none => none
      | some (k, ws) => if k = -1 ∨ k = 0 then (rdA (rdF gs S n) ws).map (ndT k) else lfO gs S k ws

set_option maxRecDepth 100000 in
theorem rdA_mono {f g : Int → Option Tm} (h : ∀ x t, f x = some t → g x = some t) : ∀ {ws : List Int} {ts : List Tm}, rdA f ws = some ts → rdA g ws = some ts
  | [], ts, e => e
  | x :: ws, ts, e => by
    unfold rdA at e ⊢
    cases h1 : f x with
    | none => rw [h1] at e; simp at e
    | some t =>
      cases h2 : rdA f ws with
      | none => rw [h1, h2] at e; simp at e
      | some us =>
        rw [h1, h2] at e
        rw [h x t h1, rdA_mono h h2]
        exact e
set_option maxRecDepth 100000 in
theorem rdF_step {gs : List Frg} {S : List Slt} : ∀ {n : Nat} {x : Int} {t : Tm}, rdF gs S n x = some t → rdF gs S (n + 1) x = some t
  | 0, x, t, e => by simp [rdF] at e
  | n + 1, x, t, e => by
    unfold rdF at e ⊢
    by_cases h1 : plB x = false
    · rw [if_pos h1] at e; cases e
    · rw [if_neg h1] at e ⊢
      by_cases h2 : x % 8 = 0
      · rw [if_pos h2] at e ⊢; exact e
      · rw [if_neg h2] at e ⊢
        by_cases h3 : x % 8 = 1
        · rw [if_pos h3] at e ⊢; exact e
        · rw [if_neg h3] at e ⊢
          by_cases h4 : x % 8 = 2
          · rw [if_pos h4] at e ⊢; exact e
          · rw [if_neg h4] at e ⊢
            by_cases h5 : x % 8 = 3
            · rw [if_pos h5] at e ⊢; exact e
            · rw [if_neg h5] at e ⊢
              cases h6 : objO gs x with
              | none => rw [h6] at e; cases e
              | some p =>
                obtain ⟨k, ws⟩ := p
                rw [h6] at e
                simp only at e ⊢
                by_cases hk : k = -1 ∨ k = 0
                · rw [if_pos hk] at e ⊢
                  cases h7 : rdA (rdF gs S n) ws with
                  | none => rw [h7] at e; cases e
                  | some ts =>
                    rw [h7] at e
                    rw [rdA_mono (fun x t h => rdF_step h) h7]
                    exact e
                · rw [if_neg hk] at e ⊢; exact e
set_option maxRecDepth 100000 in
theorem rdF_mono {gs : List Frg} {S : List Slt} {n m : Nat} {x : Int} {t : Tm} (h : rdF gs S n x = some t) (hm : n ≤ m) : rdF gs S m x = some t := by
  induction m with
  | zero => rw [show n = 0 by omega] at h; exact h
  | succ m ih =>
    by_cases e : n = m + 1
    · rw [← e]; exact h
    · exact rdF_step (ih (by omega))

/-- What a word stands for; what words stand for. -/
def Rd (gs : List Frg) (S : List Slt) (x : Int) (t : Tm) : Prop := ∃ n, rdF gs S n x = some t
def RdA (gs : List Frg) (S : List Slt) (ws : List Int) (ts : List Tm) : Prop := ∃ n, rdA (rdF gs S n) ws = some ts
section
variable {gs : List Frg} {S : List Slt} {x : Int} {t t' : Tm} {ws : List Int} {ts : List Tm}
set_option maxRecDepth 100000 in
theorem Rd.det (h : Rd gs S x t) (g : Rd gs S x t') : t = t' := by
  obtain ⟨n, h⟩ := h
  obtain ⟨m, g⟩ := g
  have h1 := rdF_mono h (Nat.le_max_left n m)
  have g1 := rdF_mono g (Nat.le_max_right n m)
  exact Option.some.inj (h1.symm.trans g1)
set_option maxRecDepth 100000 in
theorem RdA.nil : RdA gs S [] [] := ⟨0, rfl⟩
set_option maxRecDepth 100000 in
theorem RdA.cons (h : Rd gs S x t) (g : RdA gs S ws ts) : RdA gs S (x :: ws) (t :: ts) := by
  obtain ⟨n, h⟩ := h
  obtain ⟨m, g⟩ := g
  refine ⟨max n m, ?_⟩
  unfold rdA
  rw [rdF_mono h (Nat.le_max_left n m), rdA_mono (fun x t e => rdF_mono e (Nat.le_max_right n m)) g]
set_option maxRecDepth 100000 in
theorem RdA.unc {us : List Tm} (h : RdA gs S (x :: ws) us) : ∃ t ts, us = t :: ts ∧ Rd gs S x t ∧ RdA gs S ws ts := by
  obtain ⟨n, h⟩ := h
  unfold rdA at h
  cases h1 : rdF gs S n x with
  | none => rw [h1] at h; simp at h
  | some t =>
    cases h2 : rdA (rdF gs S n) ws with
    | none => rw [h1, h2] at h; simp at h
    | some ts =>
      rw [h1, h2] at h
      exact ⟨t, ts, (Option.some.inj h).symm, ⟨n, h1⟩, ⟨n, h2⟩⟩
set_option maxRecDepth 100000 in
theorem RdA.len (h : RdA gs S ws ts) : ts.length = ws.length := by
  induction ws generalizing ts with
  | nil =>
    obtain ⟨n, h⟩ := h
    unfold rdA at h
    have := Option.some.inj h
    subst this
    rfl
  | cons x ws ih =>
    obtain ⟨t, us, rfl, _, h2⟩ := h.unc
    simp [ih h2]
set_option maxRecDepth 100000 in
theorem RdA.get (h : RdA gs S ws ts) {i : Nat} (hi : i < ws.length) : ∃ t, ts[i]? = some t ∧ Rd gs S (ws.getD i 0) t := by
  induction ws generalizing ts i with
  | nil => simp at hi
  | cons x ws ih =>
    obtain ⟨t, us, rfl, h1, h2⟩ := h.unc
    cases i with
    | zero => exact ⟨t, rfl, h1⟩
    | succ i => simpa using ih h2 (i := i) (by simpa using hi)
set_option maxRecDepth 100000 in
theorem RdA.take (h : RdA gs S ws ts) (i : Nat) : RdA gs S (ws.take i) (ts.take i) := by
  induction ws generalizing ts i with
  | nil =>
    have := h.len
    have e : ts = [] := List.eq_nil_of_length_eq_zero (by simpa using this)
    subst e
    simpa using RdA.nil
  | cons x ws ih =>
    obtain ⟨t, us, rfl, h1, h2⟩ := h.unc
    cases i with
    | zero => exact RdA.nil
    | succ i => exact RdA.cons h1 (ih h2 i)
set_option maxRecDepth 100000 in
theorem RdA.app {us : List Tm} {vs : List Int} (h : RdA gs S ws ts) (g : RdA gs S vs us) : RdA gs S (ws ++ vs) (ts ++ us) := by
  induction ws generalizing ts with
  | nil =>
    have := h.len
    have e : ts = [] := List.eq_nil_of_length_eq_zero (by simpa using this)
    subst e
    exact g
  | cons x ws ih =>
    obtain ⟨t, us, rfl, h1, h2⟩ := h.unc
    exact RdA.cons h1 (ih h2)
set_option maxRecDepth 100000 in
theorem RdA.det {us : List Tm} (h : RdA gs S ws ts) (g : RdA gs S ws us) : ts = us := by
  induction ws generalizing ts us with
  | nil =>
    have h1 := h.len
    have h2 := g.len
    have e1 : ts = [] := List.eq_nil_of_length_eq_zero (by simpa using h1)
    have e2 : us = [] := List.eq_nil_of_length_eq_zero (by simpa using h2)
    rw [e1, e2]
  | cons x ws ih =>
    obtain ⟨t, ts', rfl, h1, h2⟩ := h.unc
    obtain ⟨u, us', rfl, g1, g2⟩ := g.unc
    rw [h1.det g1, ih h2 g2]
set_option maxRecDepth 100000 in
theorem take_gd {ws : List Int} {i : Nat} (h : i < ws.length) : ws.take (i + 1) = ws.take i ++ [ws.getD i 0] := by
  rw [List.take_add_one]
  simp [h]
set_option maxRecDepth 100000 in
theorem RdA.snoc {i : Nat} (h : RdA gs S (ws.take i) ts) (hi : i < ws.length) (g : Rd gs S (ws.getD i 0) t) : RdA gs S (ws.take (i + 1)) (ts ++ [t]) := by
  rw [take_gd hi]
  exact h.app (RdA.cons g RdA.nil)

set_option maxRecDepth 100000 in
/-- Plain words that lead nowhere. -/
theorem Rd.plain (h : Rd gs S x t) : plB x = true := by
  obtain ⟨n, h⟩ := h
  cases n with
  | zero => simp [rdF] at h
  | succ n =>
    unfold rdF at h
    by_cases h1 : plB x = false
    · rw [if_pos h1] at h; cases h
    · simpa using h1
def smT (x : Int) : Tm := if x % 8 = 0 then nuT 1 (ldZ x) else if x % 8 = 1 then nuT 4 (ldZ x) else if x % 8 = 2 then nuT 5 (ldZ x) else nuT 7 0
set_option maxRecDepth 100000 in
theorem plB_lt (h : plB x = true) : x % 8 ≤ 5 := by
  simp only [plB, Bool.and_eq_true, decide_eq_true_eq] at h
  exact h.1
set_option maxRecDepth 100000 in
theorem rd_small (hp : plB x = true) (h4 : x % 8 ≠ 4) (h5 : x % 8 ≠ 5) : Rd gs S x (smT x) := by
  refine ⟨1, ?_⟩
  have := plB_lt hp
  unfold rdF smT
  rw [if_neg (by simp [hp])]
  repeat' split
  all_goals first | rfl | omega
set_option maxRecDepth 100000 in
theorem smT_wt (x : Int) : (smT x).wt = 1 ∧ (smT x).Ok := by
  unfold smT nuT
  repeat' split
  all_goals simp [Tm.wt, Tm.Ok, Tm.Oks, ByteArray.size]
set_option maxRecDepth 100000 in
theorem rd_node {k : Int} (hp : plB x = true) (h4 : x % 8 = 4 ∨ x % 8 = 5) (ho : objO gs x = some (k, ws)) (hk : k = -1 ∨ k = 0) : Rd gs S x t ↔ ∃ ts, t = ndT k ts ∧ RdA gs S ws ts := by
  have key : ∀ n, rdF gs S (n + 1) x = (rdA (rdF gs S n) ws).map (ndT k) := fun n => by
    show (if plB x = false then none else if x % 8 = 0 then some (nuT 1 (ldZ x)) else if x % 8 = 1 then some (nuT 4 (ldZ x)) else if x % 8 = 2 then some (nuT 5 (ldZ x)) else if x % 8 = 3 then some (nuT 7 0) else match objO gs x with
      | none => none
      | some (k, ws) => if k = -1 ∨ k = 0 then (rdA (rdF gs S n) ws).map (ndT k) else lfO gs S k ws) = _
    rw [if_neg (by simp [hp]), if_neg (by omega), if_neg (by omega), if_neg (by omega), if_neg (by omega), ho]
    exact if_pos hk
  constructor
  · rintro ⟨n, h⟩
    cases n with
    | zero => simp [rdF] at h
    | succ n =>
      rw [key] at h
      cases h7 : rdA (rdF gs S n) ws with
      | none => rw [h7] at h; cases h
      | some ts =>
        rw [h7] at h
        exact ⟨ts, (Option.some.inj h).symm, n, h7⟩
  · rintro ⟨ts, rfl, n, h⟩
    exact ⟨n + 1, by rw [key, h]; rfl⟩
set_option maxRecDepth 100000 in
theorem rd_leaf {k : Int} (hp : plB x = true) (h4 : x % 8 = 4 ∨ x % 8 = 5) (ho : objO gs x = some (k, ws)) (hk : ¬ (k = -1 ∨ k = 0)) : Rd gs S x t ↔ lfO gs S k ws = some t := by
  have key : ∀ n, rdF gs S (n + 1) x = lfO gs S k ws := fun n => by
    show (if plB x = false then none else if x % 8 = 0 then some (nuT 1 (ldZ x)) else if x % 8 = 1 then some (nuT 4 (ldZ x)) else if x % 8 = 2 then some (nuT 5 (ldZ x)) else if x % 8 = 3 then some (nuT 7 0) else match objO gs x with
      | none => none
      | some (k, ws) => if k = -1 ∨ k = 0 then (rdA (rdF gs S n) ws).map (ndT k) else lfO gs S k ws) = _
    rw [if_neg (by simp [hp]), if_neg (by omega), if_neg (by omega), if_neg (by omega), if_neg (by omega), ho]
    exact if_neg hk
  constructor
  · rintro ⟨n, h⟩
    cases n with
    | zero => simp [rdF] at h
    | succ n => rw [key] at h; exact h
  · intro h
    exact ⟨1, by rw [key]; exact h⟩
set_option maxRecDepth 100000 in
theorem rd_none (h4 : x % 8 = 4 ∨ x % 8 = 5) (ho : objO gs x = none) : ¬ Rd gs S x t := by
  rintro ⟨n, h⟩
  cases n with
  | zero => simp [rdF] at h
  | succ n =>
    have key : rdF gs S (n + 1) x = if plB x = false then none else none := by
      show (if plB x = false then none else if x % 8 = 0 then some (nuT 1 (ldZ x)) else if x % 8 = 1 then some (nuT 4 (ldZ x)) else if x % 8 = 2 then some (nuT 5 (ldZ x)) else if x % 8 = 3 then some (nuT 7 0) else match objO gs x with
        | none => none
        | some (k, ws) => if k = -1 ∨ k = 0 then (rdA (rdF gs S n) ws).map (ndT k) else lfO gs S k ws) = _
      rw [if_neg (c := x % 8 = 0) (by omega), if_neg (c := x % 8 = 1) (by omega), if_neg (c := x % 8 = 2) (by omega), if_neg (c := x % 8 = 3) (by omega), ho]
    rw [key] at h
    split at h <;> cases h
set_option maxRecDepth 100000 in
theorem ndT_wt (k : Int) (ts : List Tm) : (ndT k ts).wt = 1 + Tm.wts ts := by
  unfold ndT
  by_cases h : k = -1
  · rw [if_pos h]; simp [Tm.wt]
  · rw [if_neg h]; simp [Tm.wt]
end
end Go.Proofs.YtejmmjedognaaaaGreat

namespace Go.Proofs.YtejmmjedognaaaaGreat
open Go.RowKit
open St

/-- The words of a region from an address on. -/
def bhL (f : Frg) (a : Int) : List Int := if 0 ≤ f.at_ ∧ f.at_ ≤ a ∧ a - f.at_ < (f.ws.length : Int) then f.ws.drop (a - f.at_).toNat else []
set_option maxRecDepth 100000 in
theorem atL_bh (f : Frg) (fs : List Frg) (a : Int) : atL (f :: fs) a = if bhL f a = [] then atL fs a else bhL f a := by
  by_cases h : 0 ≤ f.at_ ∧ f.at_ ≤ a ∧ a - f.at_ < (f.ws.length : Int)
  · have e : bhL f a = f.ws.drop (a - f.at_).toNat := if_pos h
    have hne : ¬ bhL f a = [] := fun e2 => by
      rw [e] at e2
      have := List.drop_eq_nil_iff.1 e2
      omega
    rw [if_neg hne, e]
    exact if_pos h
  · have e : bhL f a = [] := if_neg h
    rw [if_pos e]
    exact if_neg h

set_option maxRecDepth 100000 in
set_option maxRecDepth 100000 in
set_option maxHeartbeats 2000000 in
theorem behind_any {w : World} {r : FR} {f : Frg} (h : FV w r f) (a : Int) (ha : -9223372036854775808 ≤ a ∧ a ≤ 9223372036854775807) :
    Calls Tryz.prog 66 #[.agg #[.int .i64 r.at_, .slice r.A r.n r.c], .int .i64 a] w (WsP w (bhL f a)) := by
  obtain ⟨ra, rA, rn, rc⟩ := r
  have ea : ra = f.at_ := h.at_
  subst ea
  simp only
  obtain ⟨wa, hwa⟩ : ∃ wa, wa = w.alloc (.cells #[.int .i64 f.at_, .slice rA rn rc] 24) := ⟨_, rfl⟩
  have hba : Below w.heap.size w wa := by rw [hwa]; exact (Below.refl _ w).alloc (Nat.le_refl _) _
  have hbk : wa.heap[w.heap.size]? = some (.cells #[.int .i64 f.at_, .slice rA rn rc] 24 (0, 0)) := by rw [hwa]; exact heap_alloc_new w _
  have c0 : wa.cell? ⟨w.heap.size, 0, none⟩ = some (.int .i64 f.at_) := (cell_of_row wa w.heap.size 0 _ _ (0, 0) hbk).trans rfl
  have c1 : wa.cell? ⟨w.heap.size, 1, none⟩ = some (.slice rA rn rc) := (cell_of_row wa w.heap.size 1 _ _ (0, 0) hbk).trans rfl
  have hws : Hid (Zs .u64 wa rA rn rc f.ws) := Lib.hid (h.ws.below hba)
  have hnn : rn ≤ rc := h.ws.nc
  have hcc : rc ≤ 9223372036854775807 := h.ws.cm
  have hl : f.ws.length = rn := h.ws.len
  have hwf := wf_i h.wf
  have HB := Lib.hid hba
  clear h hbk hba
  go_enter Tryz.func66, Tryz.ntmps66
  go_upto_region 1 with fail
  rw [← hwa]
  clear hwa
  generalize hD : w.heap.size = D at *
  replace hD := Lib.hid hD
  by_cases h0 : f.at_ < 0
  · have hd2 : decide (f.at_ < 0) = true := decide_eq_true h0
    have HZ : Hid (bhL f a = []) := Lib.hid (if_neg (by omega))
    clear hws
    go_wp2
    go_ret
    exact ⟨none, 0, 0, rfl, by rw [HZ.out]; exact Zs.nil _ _, by rw [hD.out]; exact HB.out⟩
  · have hd2 : decide (f.at_ < 0) = false := decide_eq_false h0
    by_cases h1 : a < f.at_
    · have hd3 : decide (a < f.at_) = true := decide_eq_true h1
      have HZ : Hid (bhL f a = []) := Lib.hid (if_neg (by omega))
      clear hws
      go_wp2
      go_ret
      exact ⟨none, 0, 0, rfl, by rw [HZ.out]; exact Zs.nil _ _, by rw [hD.out]; exact HB.out⟩
    · have hd3 : decide (a < f.at_) = false := decide_eq_false h1
      obtain ⟨k, hk⟩ : ∃ k : Nat, a - f.at_ = (k : Int) := ⟨(a - f.at_).toNat, by omega⟩
      by_cases h2 : k < rn
      · have hd4 : decide ((rn : Int) ≤ (k : Int)) = false := decide_eq_false (by omega)
        have HZ : Hid (bhL f a = f.ws.drop k) := Lib.hid (by
          unfold bhL
          rw [if_pos ⟨by omega, by omega, by omega⟩, hk]
          rfl)
        obtain ⟨b2, o2, hfA, _⟩ := hws.out.some (by omega)
        subst hfA
        have hpart := hws.out.part (lo := k) (m := rn - k) (o' := o2 + k) (by omega) (.inr rfl)
        rw [List.take_of_length_le (by rw [List.length_drop]; omega)] at hpart
        have HPt : Hid (Zs .u64 wa (some ⟨b2, o2 + k, none⟩) (rn - k) (rc - k) (bhL f a)) := Lib.hid (by rw [HZ.out]; exact hpart)
        have hck : ¬ rc = k := by omega
        have hk2 : (k : Int) ≤ (rn : Int) := by omega
        clear hws HZ hpart
        go_wp2
        all_goals
          go_ret
          exact ⟨_, _, _, rfl, HPt.out, by rw [hD.out]; exact HB.out⟩
      · have hd4 : decide ((rn : Int) ≤ (k : Int)) = true := decide_eq_true (by omega)
        have HZ : Hid (bhL f a = []) := Lib.hid (if_neg (by omega))
        clear hws
        go_wp2
        go_ret
        exact ⟨none, 0, 0, rfl, by rw [HZ.out]; exact Zs.nil _ _, by rw [hD.out]; exact HB.out⟩

/-- A variable of one cell. -/
def Bv (w : World) (B : Nat) (v : Value) (t : TypeId) : Prop := w.heap[B]? = some (.cells #[v] t (0, 0))
namespace Bv
variable {w w' : World} {B : Nat} {v : Value} {t : TypeId}
set_option maxRecDepth 100000 in
theorem lt (h : Bv w B v t) : B < w.heap.size := (Array.getElem?_eq_some_iff.1 h).1
set_option maxRecDepth 100000 in
theorem below (h : Bv w B v t) {M : Nat} (hb : Below M w w') (hB : B < M) : Bv w' B v t := (hb.block B hB).trans h
set_option maxRecDepth 100000 in
theorem c0 (h : Bv w B v t) : w.cell? ⟨B, 0, none⟩ = some v := (cell_of_row w B 0 _ _ (0, 0) h).trans rfl
set_option maxRecDepth 100000 in
theorem new (w : World) (v : Value) (t : TypeId) : Bv (w.alloc (.cells #[v] t)) w.heap.size v t := heap_alloc_new w _
end Bv

/-- Regions in ascending order, with words, apart. -/
structure Srt (fs : List Frg) : Prop where
  ne : ∀ i, i < fs.length → 0 < (fs.getD i Frg.zero).ws.length ∧ 0 ≤ (fs.getD i Frg.zero).at_ ∧ (fs.getD i Frg.zero).at_ ≤ 1125899906842624
  up : ∀ i j, i < j → j < fs.length → (fs.getD i Frg.zero).at_ + (fs.getD i Frg.zero).ws.length ≤ (fs.getD j Frg.zero).at_

set_option maxRecDepth 100000 in
set_option maxRecDepth 100000 in
set_option maxHeartbeats 2000000 in
theorem fromC_any {w : World} {B1 B2 : Nat} {A : Option Addr} {n c : Nat} {rs : List FR} {fs : List Frg} {a : Int} (h : FVs w A n c rs fs) (h1 : Bv w B1 (.slice A n c) 74) (h2 : Bv w B2 (.int .i64 a) 3) (i : Nat) (hi : i < n) :
    Calls Tryz.prog 179 #[.int .i64 (i : Int), .pointer (some ⟨B1, 0, none⟩), .pointer (some ⟨B2, 0, none⟩)] w fun e w' => e = .returned (.bool (decide (a < (fs.getD i Frg.zero).at_))) ∧ ∃ q, w' = w.drewN q := by
  obtain ⟨b, o, hA, _⟩ := h.some (by omega)
  subst hA
  obtain ⟨y0, y1⟩ := h.at_ hi
  rw [(h.fv i hi).at_] at y0
  have hcm : c ≤ 9223372036854775807 := h.cm
  have hnc := h.mc
  have x1 := h1.c0
  have x2 := h2.c0
  clear h h1 h2
  generalize (fs.getD i Frg.zero).at_ = z at *
  go_enter Tryz.func179, Tryz.ntmps179
  go_wp2_with fail
  go_quiet (fail)
  go_wp2
  go_ret
  exact ⟨rfl, _, rfl⟩

/-- The first place from which on it holds. -/
structure SeP (n : Nat) (p : Nat → Bool) (i : Nat) : Prop where
  le : i ≤ n
  lo : ∀ j, j < i → p j = false
  hi : ∀ j, i ≤ j → j < n → p j = true

set_option maxRecDepth 100000 in
set_option maxRecDepth 100000 in
set_option maxHeartbeats 2000000 in
theorem search_any {w : World} {B1 B2 n : Nat} (hn : n ≤ 1000) (p : Nat → Bool) (hm : ∀ i j, i ≤ j → j < n → p i = true → p j = true)
    (hp : ∀ i, i < n → ∀ q, Calls Tryz.prog 179 #[.int .i64 (i : Int), .pointer (some ⟨B1, 0, none⟩), .pointer (some ⟨B2, 0, none⟩)] (w.drewN q) fun e w' => e = .returned (.bool (p i)) ∧ ∃ q', w' = w.drewN q') :
    Calls Tryz.prog 178 #[.int .i64 (n : Int), .func (.func 179) #[] #[.pointer (some ⟨B1, 0, none⟩), .pointer (some ⟨B2, 0, none⟩)]] w fun e w' => ∃ i q, SeP n p i ∧ e = .returned (.int .i64 (i : Int)) ∧ w' = w.drewN q := by
  replace hm := Lib.hid hm
  replace hp := Lib.hid hp
  go_enter Tryz.func178, Tryz.ntmps178
  go_wp2_with fail
  go_loopw [5, 6] (fun x y wx => ∃ i j q : Nat, i ≤ j ∧ j ≤ n ∧ x = .int .i64 (i : Int) ∧ y = .int .i64 (j : Int) ∧ Hid (∀ k, k < i → p k = false) ∧ Hid (∀ k, j ≤ k → k < n → p k = true) ∧ wx = w.drewN q) (fun x y _ => (intOf y).toNat - (intOf x).toNat)
  case atStart => exact ⟨0, n, 0, Nat.zero_le _, Nat.le_refl _, rfl, rfl, Lib.hid (fun k hk => by omega), Lib.hid (fun k h1 h2 => by omega), rfl⟩
  case round =>
    obtain ⟨i, j, q, hij, hjn, rfl, rfl, hlo, hhi, rfl⟩ := hrel
    by_cases hlt : i < j
    · have hd1 : decide ((i : Int) < (j : Int)) = true := decide_eq_true (by omega)
      obtain ⟨m, hmm⟩ : ∃ m, m = (i + j) / 2 := ⟨_, rfl⟩
      have hmi : i ≤ m ∧ m < j := by omega
      have hE : ((i : Int) + (j : Int)) / 2 = (m : Int) := by omega
      clear hmm
      have HP := Lib.hid (hp.out m (by omega) q)
      cases hpm : p m with
      | true =>
        rw [hpm] at HP
        have HN : Hid (∀ k, m ≤ k → k < n → p k = true) := Lib.hid (fun k h1 h2 => hm.out m k h1 h2 hpm)
        go_wp2_with (go_at_call 179; (with_reducible refine HP.out.mono ?_); rintro e w3 ⟨rfl, q3, rfl⟩)
        exact ⟨⟨i, m, _, by omega, by omega, rfl, rfl, hlo, HN, rfl⟩, by simp [intOf]; omega⟩
      | false =>
        rw [hpm] at HP
        have HN : Hid (∀ k, k < m + 1 → p k = false) := Lib.hid (fun k h1 => by
          cases e : p k with
          | false => rfl
          | true => rw [hm.out k m (by omega) (by omega) e] at hpm; cases hpm)
        go_wp2_with (go_at_call 179; (with_reducible refine HP.out.mono ?_); rintro e w3 ⟨rfl, q3, rfl⟩)
        exact ⟨⟨m + 1, j, _, by omega, by omega, rfl, rfl, HN, hhi, rfl⟩, by simp [intOf]; omega⟩
    · have hd1 : decide ((i : Int) < (j : Int)) = false := decide_eq_false (by omega)
      have e : i = j := by omega
      subst e
      go_wp2
      go_ret
      exact ⟨i, q, ⟨by omega, hlo.out, hhi.out⟩, rfl, rfl⟩

set_option maxRecDepth 100000 in
theorem bhL_no {f : Frg} {a : Int} (h : ¬ (0 ≤ f.at_ ∧ f.at_ ≤ a ∧ a - f.at_ < (f.ws.length : Int))) : bhL f a = [] := if_neg h
set_option maxRecDepth 100000 in
theorem atL_nil {fs : List Frg} {a : Int} (h : ∀ j, j < fs.length → bhL (fs.getD j Frg.zero) a = []) : atL fs a = [] := by
  induction fs with
  | nil => rfl
  | cons f fs ih =>
    rw [atL_bh, if_pos (by simpa using h 0 (by simp))]
    exact ih (fun j hj => by simpa using h (j + 1) (by simpa using hj))
set_option maxRecDepth 100000 in
theorem atL_only {fs : List Frg} {a : Int} {k : Nat} (hk : k < fs.length) (h : ∀ j, j < fs.length → j ≠ k → bhL (fs.getD j Frg.zero) a = []) : atL fs a = bhL (fs.getD k Frg.zero) a := by
  induction fs generalizing k with
  | nil => simp at hk
  | cons f fs ih =>
    rw [atL_bh]
    cases k with
    | zero =>
      rw [show (f :: fs).getD 0 Frg.zero = f from rfl]
      by_cases e : bhL f a = []
      · rw [if_pos e, e]
        exact atL_nil (fun j hj => by simpa using h (j + 1) (by simpa using hj) (by omega))
      · rw [if_neg e]
    | succ k =>
      rw [if_pos (by simpa using h 0 (by simp) (by omega))]
      rw [ih (k := k) (by simpa using hk) (fun j hj hne => by simpa using h (j + 1) (by simpa using hj) (by omega))]
      rfl
set_option maxRecDepth 100000 in
theorem atL_srt {fs : List Frg} (hs : Srt fs) {a : Int} {i : Nat} (h : SeP fs.length (fun i => decide (a < (fs.getD i Frg.zero).at_)) i) :
    (i = 0 → atL fs a = []) ∧ (∀ k, i = k + 1 → atL fs a = bhL (fs.getD k Frg.zero) a) := by
  have hi : ∀ j, i ≤ j → j < fs.length → bhL (fs.getD j Frg.zero) a = [] := fun j h1 h2 => by
    have := h.hi j h1 h2
    simp only [decide_eq_true_eq] at this
    exact bhL_no (by omega)
  refine ⟨fun e => atL_nil (fun j hj => hi j (by omega) hj), fun k e => ?_⟩
  have hk : k < fs.length := by have := h.le; omega
  refine atL_only hk (fun j hj hne => ?_)
  by_cases hjk : j < k
  · have h1 := hs.up j k hjk hk
    have h2 := h.lo k (by omega)
    simp only [decide_eq_false_iff_not] at h2
    exact bhL_no (by omega)
  · exact hi j (by omega) hj

set_option maxRecDepth 100000 in
set_option maxRecDepth 100000 in
set_option maxHeartbeats 4000000 in
theorem fromA_any {w : World} {A : Option Addr} {n c : Nat} {rs : List FR} {fs : List Frg} (h : FVs w A n c rs fs) (hs : Srt fs) (hn : n ≤ 1000) (a : Int) (ha : -9223372036854775808 ≤ a ∧ a ≤ 9223372036854775807) :
    Calls Tryz.prog 177 #[.slice A n c, .int .i64 a] w (WsP w (atL fs a)) := by
  obtain ⟨wa, hwa⟩ : ∃ wa, wa = w.alloc (.cells #[.slice A n c] 74) := ⟨_, rfl⟩
  obtain ⟨wb, hwb⟩ : ∃ wb, wb = wa.alloc (.cells #[.int .i64 a] 3) := ⟨_, rfl⟩
  have hba : Below w.heap.size w wa := by rw [hwa]; exact (Below.refl _ w).alloc (Nat.le_refl _) _
  have hbb : Below wa.heap.size wa wb := by rw [hwb]; exact (Below.refl _ wa).alloc (Nat.le_refl _) _
  have hs1 : wa.heap.size = w.heap.size + 1 := by rw [hwa]; simp
  have x1 : Bv wb w.heap.size (.slice A n c) 74 := by
    refine Bv.below ?_ hbb (by omega)
    rw [hwa]; exact Bv.new _ _ _
  have x2 : Bv wb (w.heap.size + 1) (.int .i64 a) 3 := by
    rw [← hs1, hwb]; exact Bv.new _ _ _
  have hbab := hba.trans (hbb.mono hba.size)
  have v := h.below hbab
  have hlen := h.lef
  clear h hba hbb
  have HS := Lib.hid (search_any (w := wb) (B1 := w.heap.size) (B2 := w.heap.size + 1) hn (fun i => decide (a < (fs.getD i Frg.zero).at_)) (fun i j hij hj e => by
      simp only [decide_eq_true_eq] at e ⊢
      by_cases he : i = j
      · rw [← he]; exact e
      · have := hs.up i j (by omega) (by omega)
        omega) (fun i hi q => (fromC_any (v.drewN q) (show Bv (wb.drewN q) _ _ _ from x1) (show Bv (wb.drewN q) _ _ _ from x2) i hi).mono fun e w' ⟨h1, q1, h2⟩ => ⟨h1, q + q1, by rw [h2, World.drewN_drewN]⟩))
  have HSr := Lib.hid hs
  have HB := Lib.hid hbab
  have hsz : wb.heap.size = w.heap.size + 2 := by rw [hwb]; simp; omega
  clear hs
  go_enter Tryz.func177, Tryz.ntmps177
  go_upto_region 1 with fail
  rw [← hwa, ← hwb]
  clear hwa hwb hs1
  generalize hD : w.heap.size = D at *
  replace hD := Lib.hid hD
  have y1 := x1.c0
  have y2 := x2.c0
  have hcm : c ≤ 9223372036854775807 := v.cm
  have hnc := v.mc
  go_upto_region 2 with (go_at_call 178; (with_reducible refine HS.out.mono ?_); rintro e w2 ⟨i, q, hse, rfl, rfl⟩; clear HS)
  have hP := atL_srt HSr.out (hlen ▸ hse)
  have hin := hse.le
  clear hse HSr
  by_cases h0 : i = 0
  · have HZ := Lib.hid (hP.1 h0)
    subst h0
    clear hP v x1 x2
    go_wp2
    go_ret
    exact ⟨none, 0, 0, rfl, by rw [HZ.out]; exact Zs.nil _ _, by rw [hD.out]; exact ⟨HB.out.os, HB.out.tape, HB.out.output, HB.out.size, HB.out.block⟩⟩
  · obtain ⟨k, hk⟩ : ∃ k, i = k + 1 := ⟨i - 1, by omega⟩
    have HZ := Lib.hid (hP.2 k hk)
    have hd1 : ((i : Int) == 0) = false := beq_eq_false_iff_ne.2 (by omega)
    have hE : (i : Int) - 1 = (k : Int) := by omega
    have hkn : k < n := by omega
    obtain ⟨b, o, hA, _⟩ := v.some (by omega)
    subst hA
    have KV : Hid (∀ w', Below wb.heap.size wb w' → w'.cell? ⟨D, 0, none⟩ = some (.slice (some ⟨b, o, none⟩) n c) ∧ w'.cell? ⟨D + 1, 0, none⟩ = some (.int .i64 a) ∧ w'.cell? ⟨b, o + k * 2, none⟩ = some (.int .i64 (rs.getD k FR.zero).at_) ∧ w'.cell? ⟨b, o + k * 2 + 1, none⟩ = some (.slice (rs.getD k FR.zero).A (rs.getD k FR.zero).n (rs.getD k FR.zero).c)) := Lib.hid (fun w' hb => by
      obtain ⟨z0, z1⟩ := (v.below hb).at_ hkn
      exact ⟨(x1.below hb x1.lt).c0, (x2.below hb x2.lt).c0, z0, z1⟩)
    have HC := Lib.hid (behind_any ((v.fv k hkn).drewN (q + 1)) a ha)
    have hi1 : 1 ≤ i := by omega
    have hW : ((i : Int) - 1 + 9223372036854775808) % 18446744073709551616 - 9223372036854775808 = (k : Int) := by omega
    have hW2 : IntKind.i64.wrap ((i : Int) - 1) = (k : Int) := by simp only [IntKind.wrap, IntKind.bits, IntKind.signed]; simp; omega
    have hW3 : wrap64 ((i : Int) - 1) = (k : Int) := by simp only [wrap64]; omega
    have hk2 : (k : Int) < (n : Int) := by omega
    clear hk hP v x1 x2 h0 hi1 hE
    generalize rs.getD k FR.zero = f at *
    generalize fs.getD k Frg.zero = g at *
    go_wp2_with fail
    go_region_held3 (fun w' => w'.cell? ⟨D, 0, none⟩ = some (.slice (some ⟨b, o, none⟩) n c) ∧ w'.cell? ⟨D + 1, 0, none⟩ = some (.int .i64 a) ∧ w'.cell? ⟨b, o + k * 2, none⟩ = some (.int .i64 f.at_) ∧ w'.cell? ⟨b, o + k * 2 + 1, none⟩ = some (.slice f.A f.n f.c))
      (first | exact KV.out (wb.drewN q) (bel_drewN wb q) | exact KV.out (wb.drewN (q + 1)) (bel_drewN wb (q + 1)) | exact KV.out w6 hb7)
      (first | (go_at_call 66; refine HC.out.mono ?_; rintro e w6 ⟨A6, n6, c6, rfl, hz6, hb6⟩; have hb7 : Below wb.heap.size wb w6 := (bel_drewN wb (q + 1)).trans hb6))
    all_goals
      go_wp2
      go_ret
      exact ⟨_, _, _, rfl, by rw [HZ.out]; exact hz6, by rw [hD.out]; exact HB.out.trans (hb7.mono (by have h9 := HB.out.size; rw [hD.out] at h9; exact h9))⟩
end Go.Proofs.YtejmmjedognaaaaGreat

namespace Go.Proofs.YtejmmjedognaaaaGreat
open Go.RowKit
open St

def neF (gs : List Frg) : List Frg := gs.filter (fun f => decide (0 < f.ws.length))
def Apt (f g : Frg) : Prop := f.at_ + f.ws.length ≤ g.at_ ∨ g.at_ + g.ws.length ≤ f.at_
set_option maxRecDepth 100000 in
theorem Apt.symm {f g : Frg} (h : Apt f g) : Apt g f := by unfold Apt at *; omega
def InR (f : Frg) : Prop := 0 ≤ f.at_ ∧ f.at_ ≤ 1125899906842624
/-- The regions with words have their places, and no address lies in two of them. -/
def Sepa (gs : List Frg) : Prop := (∀ f ∈ neF gs, InR f) ∧ (neF gs).Pairwise Apt

set_option maxRecDepth 100000 in
theorem atL_cons (f : Frg) (fs : List Frg) (a : Int) : (inF f a → atL (f :: fs) a = f.ws.drop (a - f.at_).toNat) ∧ (¬ inF f a → atL (f :: fs) a = atL fs a) :=
  ⟨fun h => if_pos h, fun h => if_neg h⟩
set_option maxRecDepth 100000 in
theorem inF_ne {f : Frg} {a : Int} (h : inF f a) : 0 < f.ws.length := by unfold inF at h; omega
set_option maxRecDepth 100000 in
theorem atL_ne (a : Int) : ∀ gs : List Frg, atL gs a = atL (neF gs) a
  | [] => rfl
  | f :: fs => by
    have ih := atL_ne a fs
    unfold neF at ih ⊢
    rw [List.filter_cons]
    by_cases h : 0 < f.ws.length
    · rw [if_pos (decide_eq_true h)]
      by_cases hi : inF f a
      · rw [(atL_cons f _ a).1 hi, (atL_cons f _ a).1 hi]
      · rw [(atL_cons f _ a).2 hi, (atL_cons f _ a).2 hi, ih]
    · rw [if_neg (by simpa using h), (atL_cons f _ a).2 (fun hi => h (inF_ne hi)), ih]
set_option maxRecDepth 100000 in
theorem apt_in {f g : Frg} {a : Int} (h : Apt f g) (hf : inF f a) (hg : inF g a) : False := by unfold Apt inF at *; omega
set_option maxRecDepth 100000 in
theorem atL_perm {fs gs : List Frg} (hp : fs.Perm gs) (a : Int) : fs.Pairwise Apt → atL fs a = atL gs a := by
  induction hp with
  | nil => intro _; rfl
  | cons f h ih =>
    intro hw
    rw [List.pairwise_cons] at hw
    by_cases hi : inF f a
    · rw [(atL_cons f _ a).1 hi, (atL_cons f _ a).1 hi]
    · rw [(atL_cons f _ a).2 hi, (atL_cons f _ a).2 hi, ih hw.2]
  | swap f g l =>
    intro hw
    rw [List.pairwise_cons] at hw
    have hfg : Apt g f := hw.1 f (by simp)
    by_cases hi : inF f a
    · have hg : ¬ inF g a := fun hg => apt_in hfg hg hi
      rw [(atL_cons g _ a).2 hg, (atL_cons f _ a).1 hi, (atL_cons f _ a).1 hi]
    · by_cases hg : inF g a
      · rw [(atL_cons g _ a).1 hg, (atL_cons f _ a).2 hi, (atL_cons g _ a).1 hg]
      · rw [(atL_cons g _ a).2 hg, (atL_cons f _ a).2 hi, (atL_cons f _ a).2 hi, (atL_cons g _ a).2 hg]
  | trans h1 h2 ih1 ih2 =>
    intro hw
    rw [ih1 hw, ih2 ((h1.pairwise_iff (fun h => Apt.symm h)).1 hw)]
set_option maxRecDepth 100000 in
theorem adj_up {fs : List Frg} (hadj : ∀ i, i + 1 < fs.length → (fs.getD i Frg.zero).at_ + (fs.getD i Frg.zero).ws.length ≤ (fs.getD (i + 1) Frg.zero).at_) (i : Nat) : ∀ j, i < j → j < fs.length → (fs.getD i Frg.zero).at_ + (fs.getD i Frg.zero).ws.length ≤ (fs.getD j Frg.zero).at_ := by
  intro j
  induction j with
  | zero => intro h; omega
  | succ j ih =>
    intro h1 h2
    by_cases e : i = j
    · subst e
      exact hadj i h2
    · have := ih (by omega) (by omega)
      have := hadj j h2
      omega
set_option maxRecDepth 100000 in
theorem getD_mem {fs : List Frg} {i : Nat} (h : i < fs.length) : fs.getD i Frg.zero ∈ fs := by
  rw [List.getD_eq_getElem?_getD, List.getElem?_eq_getElem h]
  exact List.getElem_mem h
set_option maxRecDepth 100000 in
theorem neF_mem {gs : List Frg} {f : Frg} (h : f ∈ neF gs) : f ∈ gs ∧ 0 < f.ws.length := by
  unfold neF at h
  rw [List.mem_filter] at h
  exact ⟨h.1, of_decide_eq_true h.2⟩
set_option maxRecDepth 100000 in
theorem sep_yes {fs gs : List Frg} (hp : fs.Perm (neF gs)) (hr : ∀ f ∈ neF gs, InR f)
    (hadj : ∀ i, i + 1 < fs.length → (fs.getD i Frg.zero).at_ + (fs.getD i Frg.zero).ws.length ≤ (fs.getD (i + 1) Frg.zero).at_) :
    Sepa gs ∧ Srt fs ∧ ∀ a, atL gs a = atL fs a := by
  have hs : Srt fs := ⟨fun i hi => by
    have h1 := hp.mem_iff.1 (getD_mem hi)
    exact ⟨(neF_mem h1).2, (hr _ h1).1, (hr _ h1).2⟩, fun i j hij hj => adj_up hadj i j hij hj⟩
  have hw : fs.Pairwise Apt := by
    rw [List.pairwise_iff_getElem]
    intro i j hi hj hij
    have := hs.up i j hij hj
    rw [List.getD_eq_getElem?_getD, List.getD_eq_getElem?_getD, List.getElem?_eq_getElem hi, List.getElem?_eq_getElem hj] at this
    exact .inl this
  exact ⟨⟨hr, (hp.pairwise_iff (fun h => Apt.symm h)).1 hw⟩, hs, fun a => by rw [atL_ne, atL_perm hp a hw]⟩
set_option maxRecDepth 100000 in
theorem sep_no {fs gs : List Frg} (hp : fs.Perm (neF gs)) (i : Nat) (hi : i + 1 < fs.length) (hs : (fs.getD i Frg.zero).at_ ≤ (fs.getD (i + 1) Frg.zero).at_)
    (ho : (fs.getD (i + 1) Frg.zero).at_ < (fs.getD i Frg.zero).at_ + (fs.getD i Frg.zero).ws.length) : ¬ Sepa gs := fun h => by
  have hw := (hp.pairwise_iff (fun h => Apt.symm h)).2 h.2
  have h1 := (List.pairwise_iff_getElem.1 hw) i (i + 1) (by omega) hi (by omega)
  have e1 : fs.getD i Frg.zero = fs[i]'(by omega) := by rw [List.getD_eq_getElem?_getD, List.getElem?_eq_getElem (by omega)]; rfl
  have e2 : fs.getD (i + 1) Frg.zero = fs[i + 1] := by rw [List.getD_eq_getElem?_getD, List.getElem?_eq_getElem hi]; rfl
  have h2 := (neF_mem (hp.mem_iff.1 (getD_mem hi))).2
  rw [← e1, ← e2] at h1
  unfold Apt at h1
  omega
set_option maxRecDepth 100000 in
theorem sep_out {f : Frg} {gs : List Frg} (hf : f ∈ gs) (h0 : 0 < f.ws.length) (hr : ¬ InR f) : ¬ Sepa gs := fun h => hr (h.1 f (by
  unfold neF
  rw [List.mem_filter]
  exact ⟨hf, decide_eq_true h0⟩))
end Go.Proofs.YtejmmjedognaaaaGreat
