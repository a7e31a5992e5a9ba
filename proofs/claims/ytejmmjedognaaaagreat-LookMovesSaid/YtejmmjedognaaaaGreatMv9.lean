/-
  PACKAGE term: alike (slices.Equal of limbs).
-/
import Derived.Test.YtejmmjedognaaaaGreatMv7
import Derived.Test.YtejmmjedognaaaaGreatMv8
namespace Go.Proofs.YtejmmjedognaaaaGreat
open Go.RowKit

/-- num.May, of any limbs. -/
def mayB (n : Bool) (l : List Nat) : Bool := if l.length = 0 then !n else decide (l.length ≤ 8) && decide (Lm.lg l (l.length - 1) ≠ 0)

set_option maxRecDepth 100000 in
set_option maxHeartbeats 400000 in
theorem may_any (w : World) (g : Bool) (A : Option Addr) (n c : Nat) (l : List Nat) (h : Lim w A n c l) (_hn : c ≤ maxLen) :
    Calls Tryz.prog 160 #[.agg #[.bool g, .slice A n c]] w fun e w' => e = .returned (.bool (mayB g l)) ∧ w' = w.alloc (.cells #[.bool g, .slice A n c] 37) := by
  unfold maxLen at _hn
  have hnc := h.2.1
  have hll := Lib.hid h.1
  by_cases h0 : n = 0
  · subst h0
    have fin : Hid (mayB g l = !g) := by unfold mayB; rw [if_pos hll.out]; rfl
    go_enter Tryz.func160, Tryz.ntmps160
    go_wp2
    go_ret
    rw [fin.out]
    exact ⟨rfl, rfl⟩
  · have hne : (((n : Nat) : Int) == 0) = false := by rw [beq_eq_false_iff_ne]; omega
    obtain ⟨b, o, rfl, hlt, hcell⟩ := h.2.2.2 (by omega)
    have hg := hcell (n - 1) (by omega)
    clear hcell
    by_cases h8 : n ≤ 8
    · by_cases hx : Lm.lg l (n - 1) = 0
      · have fin := Lib.hid (show mayB g l = false by unfold mayB; rw [hll.out, if_neg h0]; simp [hx])
        rw [hx] at hg
        have hX := Lib.hid hx
        clear hx
        go_enter Tryz.func160, Tryz.ntmps160
        go_wp2
        go_ret
        rw [fin.out]
        exact ⟨rfl, rfl⟩
      · have fin := Lib.hid (show mayB g l = true by unfold mayB; rw [hll.out, if_neg h0]; simp [hx, h8])
        have hx' : (((Lm.lg l (n - 1) : Nat) : Int) != 0) = true := by rw [bne_iff_ne]; omega
        go_enter Tryz.func160, Tryz.ntmps160
        go_wp2
        go_ret
        rw [fin.out]
        exact ⟨rfl, rfl⟩
    · have fin := Lib.hid (show mayB g l = false by unfold mayB; rw [hll.out, if_neg h0]; simp [h8])
      go_enter Tryz.func160, Tryz.ntmps160
      go_wp2
      go_ret
      rw [fin.out]
      exact ⟨rfl, rfl⟩

set_option maxRecDepth 100000 in
theorem nan_int (x : Int) (w : World) : Calls Tryz.prog 96 #[.int .i64 x] w fun e w' => e = .returned (.bool false) ∧ w = w' := by
  go_enter Tryz.func96, Tryz.ntmps96
  go_wp2
  go_ret
  exact ⟨rfl, rfl⟩
set_option maxRecDepth 100000 in
theorem compare_int (x y : Nat) (w : World) : Calls Tryz.prog 64 #[.int .i64 x, .int .i64 y] w fun e w' => e = .returned (.int .i64 (Lm.cmpN x y)) ∧ w = w' := by
  rcases Nat.lt_trichotomy x y with h | h | h
  · have fin : Hid (Lm.cmpN x y = -1) := by unfold Lm.cmpN; rw [if_pos h]; rfl
    go_enter Tryz.func64, Tryz.ntmps64
    go_wp2_with (go_at_call 96; refine (nan_int _ _).mono ?_; rintro e w' ⟨rfl, rfl⟩)
    go_ret
    rw [fin.out]; exact ⟨rfl, rfl⟩
  · subst h
    have fin : Hid (Lm.cmpN x x = 0) := by unfold Lm.cmpN; rw [if_neg (by omega), if_neg (by omega)]; rfl
    go_enter Tryz.func64, Tryz.ntmps64
    go_wp2_with (go_at_call 96; refine (nan_int _ _).mono ?_; rintro e w' ⟨rfl, rfl⟩)
    go_ret
    rw [fin.out]; exact ⟨rfl, rfl⟩
  · have fin : Hid (Lm.cmpN x y = 1) := by unfold Lm.cmpN; rw [if_neg (by omega), if_pos h]; rfl
    go_enter Tryz.func64, Tryz.ntmps64
    go_wp2_with (go_at_call 96; refine (nan_int _ _).mono ?_; rintro e w' ⟨rfl, rfl⟩)
    go_ret
    rw [fin.out]; exact ⟨rfl, rfl⟩

end Go.Proofs.YtejmmjedognaaaaGreat

namespace Go.Proofs.YtejmmjedognaaaaGreat
open Go.RowKit

set_option maxRecDepth 100000 in
theorem cmp_top {a b : List Nat} (ha : Lm.Small a) (hb : Lm.Small b) (k : Nat) (hl : a.length = b.length) (hk : k < a.length)
    (heq : ∀ j, k < j → j < a.length → Lm.lg a j = Lm.lg b j) (hne : Lm.lg a k ≠ Lm.lg b k) : Lm.cmpN (Lm.val a) (Lm.val b) = Lm.cmpN (Lm.lg a k) (Lm.lg b k) := by
  rcases Nat.lt_or_ge (Lm.lg a k) (Lm.lg b k) with h | h
  · have := Lm.val_lt_of_top ha hb k hl hk heq h
    unfold Lm.cmpN; rw [if_pos this, if_pos h]
  · have h : Lm.lg b k < Lm.lg a k := by omega
    have := Lm.val_lt_of_top hb ha k hl.symm (by omega) (fun j h1 h2 => (heq j h1 (by omega)).symm) h
    unfold Lm.cmpN; rw [if_neg (by omega), if_pos this, if_neg (by omega), if_pos h]
set_option maxRecDepth 100000 in
theorem cmp_len {a b : List Nat} (ha : Lm.Small a) (hb : Lm.Small b) (hca : Lm.Canon a) (hcb : Lm.Canon b) (hne : a.length ≠ b.length) :
    Lm.cmpN (Lm.val a) (Lm.val b) = Lm.cmpN a.length b.length := by
  rcases Nat.lt_or_ge a.length b.length with h | h
  · have := Lm.val_lt_of_length ha hb hcb h
    unfold Lm.cmpN; rw [if_pos this, if_pos h]
  · have h : b.length < a.length := by omega
    have := Lm.val_lt_of_length hb ha hca h
    unfold Lm.cmpN; rw [if_neg (by omega), if_pos this, if_neg (by omega), if_pos h]

end Go.Proofs.YtejmmjedognaaaaGreat

namespace Go.Proofs.YtejmmjedognaaaaGreat
open Go.RowKit

set_option maxRecDepth 100000 in
set_option maxHeartbeats 800000 in
theorem sameLimbs_any (w : World) (A B : Option Addr) (n c m d : Nat) (l k : List Nat) (h : Lim w A n c l) (hn : c ≤ maxLen) (h' : Lim w B m d k) (_hm : d ≤ maxLen) :
    Calls Tryz.prog 68 #[.slice A n c, .slice B m d] w fun e w' => e = .returned (.bool (decide (l = k))) ∧ ∃ q, w' = w.drewN q := by
  unfold maxLen at hn _hm
  have hnc := h.2.1
  have hmd := h'.2.1
  have hll := Lib.hid h.1
  have hkk := Lib.hid h'.1
  by_cases hnm : n = m
  · subst hnm
    go_enter Tryz.func68, Tryz.ntmps68
    go_wp2
    go_loopw [5] (fun i w' => ∃ j : Nat, j ≤ n ∧ i = .int .i64 (j : Int) ∧ (∃ q, w' = w.drewN q) ∧ Hid (∀ t, t < j → Lm.lg l t = Lm.lg k t)) (fun i _ => n - (intOf i).toNat)
    case atStart => exact ⟨0, Nat.zero_le _, rfl, ⟨0, rfl⟩, fun t h1 => by omega⟩
    case round =>
      obtain ⟨j, hj, rfl, ⟨q, rfl⟩, hz⟩ := hrel
      by_cases h0 : j < n
      · obtain ⟨b, o, rfl, hlt, hcell⟩ := h.2.2.2 (by omega)
        obtain ⟨b', o', rfl, hlt', hcell'⟩ := h'.2.2.2 (by omega)
        have hg := hcell j h0
        have hg' := hcell' j h0
        have hpos2 : (j : Int) < (n : Int) := by omega
        clear hcell hcell'
        by_cases hx : Lm.lg l j = Lm.lg k j
        · rw [← hx] at hg'
          have hX := Lib.hid hx
          clear hx
          go_wp2
          go_quiet (fail)
          go_wp2
          go_roundw
          case rel => exact ⟨j + 1, by omega, by go_num, ⟨_, rfl⟩, fun t h1 => by
            by_cases e : t = j
            · rw [e]; exact hX.out
            · exact hz.out t (by omega)⟩
          case measure => simp [intOf]; omega
        · have hne : ((((Lm.lg l j : Nat) : Int) != ((Lm.lg k j : Nat) : Int))) = true := by rw [bne_iff_ne]; omega
          have fin := Lib.hid (show decide (l = k) = false by rw [decide_eq_false_iff_not]; rintro rfl; exact hx rfl)
          go_wp2
          go_quiet (fail)
          go_wp2
          go_ret
          rw [fin.out]
          exact ⟨rfl, _, by rw [World.drewN_drewN]⟩
      · have e := Lm.eq_of_lg (hll.out.trans hkk.out.symm) (fun t ht => hz.out t (by have := hll.out; omega))
        have fin := Lib.hid (show decide (l = k) = true by rw [decide_eq_true_iff]; exact e)
        clear e
        go_wp2
        go_ret
        rw [fin.out]
        exact ⟨rfl, q, rfl⟩
  · have hne : (((n : Nat) : Int) != ((m : Nat) : Int)) = true := by rw [bne_iff_ne]; omega
    have fin := Lib.hid (show decide (l = k) = false by rw [decide_eq_false_iff_not]; rintro rfl; exact hnm (by rw [← hll.out, ← hkk.out]))
    go_enter Tryz.func68, Tryz.ntmps68
    go_wp2
    go_ret
    rw [fin.out]
    exact ⟨rfl, 0, rfl⟩

/-- Two numbers as they stand. -/
def sameB (g g' : Bool) (l k : List Nat) : Bool := (g == g') && decide (l = k)

set_option maxRecDepth 100000 in
set_option maxHeartbeats 800000 in
theorem sameNum_any (w : World) (g g' : Bool) (A B : Option Addr) (n c m d : Nat) (l k : List Nat) (h : Lim w A n c l) (hn : c ≤ maxLen) (h' : Lim w B m d k) (hm : d ≤ maxLen) :
    Calls Tryz.prog 34 #[.agg #[.bool g, .slice A n c], .agg #[.bool g', .slice B m d]] w fun e w' => e = .returned (.bool (sameB g g' l k)) ∧ Below w.heap.size w w' := by
  by_cases hgg : g = g'
  · subst hgg
    have fin := Lib.hid (show sameB g g l k = decide (l = k) by simp [sameB])
    go_enter Tryz.func34, Tryz.ntmps34
    go_wp2_with fail
    refine (sameLimbs_any _ A B n c m d l k ((h.alloc _).alloc _) hn ((h'.alloc _).alloc _) hm).mono ?_
    rintro e w' ⟨rfl, q, rfl⟩
    go_wp2
    go_ret
    rw [fin.out]
    exact ⟨rfl, (((Below.refl _ _).alloc (Nat.le_refl _) _).alloc (by simp) _).drewN' q⟩
  · have fin := Lib.hid (show sameB g g' l k = false by simp [sameB, hgg])
    have hne : (g == g') = false := by simpa using hgg
    go_enter Tryz.func34, Tryz.ntmps34
    go_wp2
    go_ret
    rw [fin.out]
    exact ⟨rfl, ((Below.refl _ _).alloc (Nat.le_refl _) _).alloc (by simp) _⟩

/-- Limbs with a sign; 0 has none. -/
def signedV (g : Bool) (A : Option Addr) (n c : Nat) : Value := if n = 0 then .agg #[.bool false, .slice none 0 0] else .agg #[.bool g, .slice A n c]

end Go.Proofs.YtejmmjedognaaaaGreat

namespace Go.Proofs.YtejmmjedognaaaaGreat
open Go.RowKit

set_option maxRecDepth 100000 in
set_option maxHeartbeats 800000 in
theorem equal_any (w : World) (A B : Option Addr) (n c m d : Nat) (l k : List Nat) (h : Lim w A n c l) (hn : c ≤ maxLen) (h' : Lim w B m d k) (_hm : d ≤ maxLen) :
    Calls Tryz.prog 158 #[.slice A n c, .slice B m d] w fun e w' => e = .returned (.bool (decide (l = k))) ∧ ∃ q, w' = w.drewN q := by
  unfold maxLen at hn _hm
  have hnc := h.2.1
  have hmd := h'.2.1
  have hll := Lib.hid h.1
  have hkk := Lib.hid h'.1
  by_cases hnm : n = m
  · subst hnm
    go_enter Tryz.func158, Tryz.ntmps158
    go_wp2
    go_loopw [13] (fun i w' => ∃ j : Nat, j ≤ n ∧ i = .int .i64 (j : Int) ∧ (∃ q, w' = w.drewN q) ∧ Hid (∀ t, t < j → Lm.lg l t = Lm.lg k t)) (fun i _ => n - (intOf i).toNat)
    case atStart => exact ⟨0, Nat.zero_le _, rfl, ⟨0, rfl⟩, fun t h1 => by omega⟩
    case round =>
      obtain ⟨j, hj, rfl, ⟨q, rfl⟩, hz⟩ := hrel
      by_cases h0 : j < n
      · obtain ⟨b, o, rfl, hlt, hcell⟩ := h.2.2.2 (by omega)
        obtain ⟨b', o', rfl, hlt', hcell'⟩ := h'.2.2.2 (by omega)
        have hg := hcell j h0
        have hg' := hcell' j h0
        have hpos2 : (j : Int) < (n : Int) := by omega
        clear hcell hcell'
        by_cases hx : Lm.lg l j = Lm.lg k j
        · rw [← hx] at hg'
          have hX := Lib.hid hx
          clear hx
          go_wp2
          go_quiet (fail)
          go_wp2
          go_roundw
          case rel => exact ⟨j + 1, by omega, by go_num, ⟨_, rfl⟩, fun t h1 => by
            by_cases e : t = j
            · rw [e]; exact hX.out
            · exact hz.out t (by omega)⟩
          case measure => simp [intOf]; omega
        · have hne : ((((Lm.lg l j : Nat) : Int) != ((Lm.lg k j : Nat) : Int))) = true := by rw [bne_iff_ne]; omega
          have fin := Lib.hid (show decide (l = k) = false by rw [decide_eq_false_iff_not]; rintro rfl; exact hx rfl)
          go_wp2
          go_quiet (fail)
          go_wp2
          go_ret
          rw [fin.out]
          exact ⟨rfl, _, by rw [World.drewN_drewN]⟩
      · have e := Lm.eq_of_lg (hll.out.trans hkk.out.symm) (fun t ht => hz.out t (by have := hll.out; omega))
        have fin := Lib.hid (show decide (l = k) = true by rw [decide_eq_true_iff]; exact e)
        clear e
        go_wp2
        go_ret
        rw [fin.out]
        exact ⟨rfl, q, rfl⟩
  · have hne : (((n : Nat) : Int) != ((m : Nat) : Int)) = true := by rw [bne_iff_ne]; omega
    have fin := Lib.hid (show decide (l = k) = false by rw [decide_eq_false_iff_not]; rintro rfl; exact hnm (by rw [← hll.out, ← hkk.out]))
    go_enter Tryz.func158, Tryz.ntmps158
    go_wp2
    go_ret
    rw [fin.out]
    exact ⟨rfl, 0, rfl⟩

/-- Are two terms the same, but for their arguments, of which only how many they are is held? -/
def Tm.alikeB (a b : Tm) : Bool := (((((a.kind == b.kind) && (a.num == b.num)) && (a.bits == b.bits)) && decide (a.bytes = b.bytes)) && (a.neg == b.neg)) && (decide (a.mag = b.mag) && (a.args.length == b.args.length))

set_option maxRecDepth 100000 in
theorem toList_ne {s s' : ByteArray} (h : ¬ s = s') : ¬ s.toList = s'.toList := fun e => h (by
  apply ByteArray.ext
  apply Array.ext'
  rw [← ByteArray.toList_eq, ← ByteArray.toList_eq]
  exact e)
set_option maxRecDepth 100000 in
set_option maxHeartbeats 2000000 in
theorem alike_raw (w : World) (k n : Int) (g : Bool) (A : Option Addr) (ln lc : Nat) (u : Int) (s : ByteArray) (B : Option Addr) (m d : Nat)
    (k' n' : Int) (g' : Bool) (A' : Option Addr) (ln' lc' : Nat) (u' : Int) (s' : ByteArray) (B' : Option Addr) (m' d' : Nat) (l l' : List Nat) (hl : Lim w A ln lc l) (hc : lc ≤ maxLen) (hl' : Lim w A' ln' lc' l') (hc' : lc' ≤ maxLen)
    (R : Bool) (HR : Hid (R = ((((((k == k') && (n == n')) && (u == u')) && decide (s = s')) && (g == g')) && (decide (l = l') && (m == m'))))) :
    Calls Tryz.prog 155 #[.agg #[.int .i64 k, .int .i64 n, .bool g, .slice A ln lc, .int .u64 u, .string s, .slice B m d], .agg #[.int .i64 k', .int .i64 n', .bool g', .slice A' ln' lc', .int .u64 u', .string s', .slice B' m' d']] w fun e w' => e = .returned (.bool R) ∧ Below w.heap.size w w' := by
  have hb0 := ((Below.refl w.heap.size w).alloc (Nat.le_refl _) (.cells #[.int .i64 k, .int .i64 n, .bool g, .slice A ln lc, .int .u64 u, .string s, .slice B m d] 40)).alloc (by simp) (.cells #[.int .i64 k', .int .i64 n', .bool g', .slice A' ln' lc', .int .u64 u', .string s', .slice B' m' d'] 40)
  by_cases ne : k = k'
  case neg =>
    have hfin := Lib.hid (show R = false by rw [HR.out, show (k == k') = false by rw [beq_eq_false_iff_ne]; exact ne]; simp)
    have ne' : (k == k') = false := by rw [beq_eq_false_iff_ne]; exact ne
    go_enter Tryz.func155, Tryz.ntmps155
    go_wp2
    go_ret
    exact ⟨by rw [hfin.out]; rfl, hb0⟩
  subst ne
  by_cases ne : n = n'
  case neg =>
    have hfin := Lib.hid (show R = false by rw [HR.out, show (n == n') = false by rw [beq_eq_false_iff_ne]; exact ne]; simp)
    have ne' : (n == n') = false := by rw [beq_eq_false_iff_ne]; exact ne
    go_enter Tryz.func155, Tryz.ntmps155
    go_wp2
    go_ret
    exact ⟨by rw [hfin.out]; rfl, hb0⟩
  subst ne
  by_cases ne : u = u'
  case neg =>
    have hfin := Lib.hid (show R = false by rw [HR.out, show (u == u') = false by rw [beq_eq_false_iff_ne]; exact ne]; simp)
    have ne' : (u == u') = false := by rw [beq_eq_false_iff_ne]; exact ne
    go_enter Tryz.func155, Tryz.ntmps155
    go_wp2
    go_ret
    exact ⟨by rw [hfin.out]; rfl, hb0⟩
  subst ne
  by_cases ne : s = s'
  case neg =>
    have hfin := Lib.hid (show R = false by rw [HR.out, decide_eq_false ne]; simp)
    have ne' := toList_ne ne
    go_enter Tryz.func155, Tryz.ntmps155
    go_wp2
    go_ret
    exact ⟨by rw [hfin.out]; rfl, hb0⟩
  subst ne
  by_cases ne : g = g'
  case neg =>
    have hfin := Lib.hid (show R = false by rw [HR.out, show (g == g') = false by rw [beq_eq_false_iff_ne]; exact ne]; simp)
    go_enter Tryz.func155, Tryz.ntmps155
    go_wp2
    go_ret
    exact ⟨by rw [hfin.out]; rfl, hb0⟩
  subst ne
  have hx := (Box7.new w (TR.mk k n g A ln lc u s B m d)).below ((Below.refl _ _).alloc (Nat.le_refl _) (.cells #[.int .i64 (TR.mk k n g A' ln' lc' u s B' m' d').k, .int .i64 (TR.mk k n g A' ln' lc' u s B' m' d').n, .bool (TR.mk k n g A' ln' lc' u s B' m' d').g, .slice (TR.mk k n g A' ln' lc' u s B' m' d').A (TR.mk k n g A' ln' lc' u s B' m' d').ln (TR.mk k n g A' ln' lc' u s B' m' d').lc, .int .u64 (TR.mk k n g A' ln' lc' u s B' m' d').u, .string (TR.mk k n g A' ln' lc' u s B' m' d').s, .slice (TR.mk k n g A' ln' lc' u s B' m' d').B (TR.mk k n g A' ln' lc' u s B' m' d').m (TR.mk k n g A' ln' lc' u s B' m' d').d] 40))
  have hy := Box7.new (w.alloc (.cells #[.int .i64 (TR.mk k n g A ln lc u s B m d).k, .int .i64 (TR.mk k n g A ln lc u s B m d).n, .bool (TR.mk k n g A ln lc u s B m d).g, .slice (TR.mk k n g A ln lc u s B m d).A (TR.mk k n g A ln lc u s B m d).ln (TR.mk k n g A ln lc u s B m d).lc, .int .u64 (TR.mk k n g A ln lc u s B m d).u, .string (TR.mk k n g A ln lc u s B m d).s, .slice (TR.mk k n g A ln lc u s B m d).B (TR.mk k n g A ln lc u s B m d).m (TR.mk k n g A ln lc u s B m d).d] 40)) (TR.mk k n g A' ln' lc' u s B' m' d')
  rw [World.size_alloc] at hy
  have hl0 := hl.below hb0
  have hl0' := hl'.below hb0
  have hcase := Lib.hid (show R = (decide (l = l') && (m == m')) by rw [HR.out]; simp)
  clear HR
  go_enter Tryz.func155, Tryz.ntmps155
  go_wp2_with fail
  generalize (w.alloc (.cells #[.int .i64 (TR.mk k n g A ln lc u s B m d).k, .int .i64 (TR.mk k n g A ln lc u s B m d).n, .bool (TR.mk k n g A ln lc u s B m d).g, .slice (TR.mk k n g A ln lc u s B m d).A (TR.mk k n g A ln lc u s B m d).ln (TR.mk k n g A ln lc u s B m d).lc, .int .u64 (TR.mk k n g A ln lc u s B m d).u, .string (TR.mk k n g A ln lc u s B m d).s, .slice (TR.mk k n g A ln lc u s B m d).B (TR.mk k n g A ln lc u s B m d).m (TR.mk k n g A ln lc u s B m d).d] 40)).alloc (.cells #[.int .i64 (TR.mk k n g A' ln' lc' u s B' m' d').k, .int .i64 (TR.mk k n g A' ln' lc' u s B' m' d').n, .bool (TR.mk k n g A' ln' lc' u s B' m' d').g, .slice (TR.mk k n g A' ln' lc' u s B' m' d').A (TR.mk k n g A' ln' lc' u s B' m' d').ln (TR.mk k n g A' ln' lc' u s B' m' d').lc, .int .u64 (TR.mk k n g A' ln' lc' u s B' m' d').u, .string (TR.mk k n g A' ln' lc' u s B' m' d').s, .slice (TR.mk k n g A' ln' lc' u s B' m' d').B (TR.mk k n g A' ln' lc' u s B' m' d').m (TR.mk k n g A' ln' lc' u s B' m' d').d] 40) = W at *
  refine (equal_any W A A' ln lc ln' lc' l l' hl0 hc hl0' hc').mono ?_
  rintro e w1 ⟨rfl, q, rfl⟩
  have y6 : (W.drewN q).cell? ⟨w.heap.size, 6, none⟩ = some (.slice B m d) := hx.at.c6
  have x6 : (W.drewN q).cell? ⟨w.heap.size + 1, 6, none⟩ = some (.slice B' m' d') := hy.at.c6
  have hb1 : Below w.heap.size w (W.drewN q) := hb0.drewN' q
  generalize W.drewN q = W1 at *
  cases e5 : decide (l = l') with
  | false =>
    have hfin := Lib.hid (show R = false by rw [hcase.out, e5]; rfl)
    go_wp2
    go_ret
    exact ⟨by rw [hfin.out]; rfl, hb1⟩
  | true =>
    have hfin := Lib.hid (show R = ((m : Int) == (m' : Int)) by
      rw [hcase.out, e5, Bool.true_and]
      by_cases e : m = m'
      · subst e; simp
      · rw [beq_eq_false_iff_ne.2 e, beq_eq_false_iff_ne.2 (by omega)])
    go_wp2
    go_ret
    exact ⟨by rw [hfin.out]; rfl, hb1⟩

set_option maxRecDepth 100000 in
theorem alike_any (w : World) (r : TR) (t : Tm) (h : TV w r t) (r' : TR) (t' : Tm) (h' : TV w r' t') :
    Calls Tryz.prog 155 #[.agg #[.int .i64 r.k, .int .i64 r.n, .bool r.g, .slice r.A r.ln r.lc, .int .u64 r.u, .string r.s, .slice r.B r.m r.d], .agg #[.int .i64 r'.k, .int .i64 r'.n, .bool r'.g, .slice r'.A r'.ln r'.lc, .int .u64 r'.u, .string r'.s, .slice r'.B r'.m r'.d]] w fun e w' => e = .returned (.bool (Tm.alikeB t t')) ∧ Below w.heap.size w w' :=
  alike_raw w r.k r.n r.g r.A r.ln r.lc r.u r.s r.B r.m r.d r'.k r'.n r'.g r'.A r'.ln r'.lc r'.u r'.s r'.B r'.m r'.d t.mag t'.mag h.flat.lim h.flat.cap h'.flat.lim h'.flat.cap _ (Lib.hid (by
    unfold Tm.alikeB
    rw [h.kind, h.num, h.bits, h.bytes, h.neg, h'.kind, h'.num, h'.bits, h'.bytes, h'.neg, h.len, h'.len]))
end Go.Proofs.YtejmmjedognaaaaGreat

namespace Go.Proofs.YtejmmjedognaaaaGreat
open Go.RowKit

/-- What addLimbs leaves: a new row. -/
def SumPost (w : World) (N v : Nat) (e : Ending) (w' : World) : Prop :=
  ∃ t : List Nat, e = .returned (.slice (some ⟨w.heap.size, 0, none⟩) N N) ∧ w' = w.alloc (.cells (arr t) 128) ∧ t.length = N ∧ Lm.Small t ∧ Lm.val t = v

set_option maxRecDepth 100000 in
theorem cast3d (x a b : Nat) : ((x : Int) + a + b) / 4294967296 = (((x + a + b) / 4294967296 : Nat) : Int) := by omega
set_option maxRecDepth 100000 in
theorem cast3m (x a b : Nat) : ((x : Int) + a + b) % 4294967296 = (((x + a + b) % 4294967296 : Nat) : Int) := by omega
set_option maxRecDepth 100000 in
theorem cast2d (x a : Nat) : ((x : Int) + a) / 4294967296 = (((x + a + 0) / 4294967296 : Nat) : Int) := by omega
set_option maxRecDepth 100000 in
theorem cast2m (x a : Nat) : ((x : Int) + a) % 4294967296 = (((x + a + 0) % 4294967296 : Nat) : Int) := by omega

set_option maxRecDepth 100000 in
theorem sub_wrap (a x b : Nat) (ha : a ≤ 4294967295) (hx : x ≤ 1) (hb : b ≤ 4294967295) :
    ∃ y b' : Nat, IntKind.u64.wrap (IntKind.u64.wrap ((a : Int) - x) - b) % 4294967296 = (y : Int) ∧ IntKind.u64.wrap (IntKind.u64.wrap ((a : Int) - x) - b) / 9223372036854775808 = (b' : Int) ∧ b' ≤ 1 ∧ y < 4294967296 ∧ a + 4294967296 * b' = y + b + x := by
  rw [IntKind.wrap_u64, IntKind.wrap_u64]
  refine ⟨((((a : Int) - x) % 18446744073709551616 - b) % 18446744073709551616 % 4294967296).toNat, ((((a : Int) - x) % 18446744073709551616 - b) % 18446744073709551616 / 9223372036854775808).toNat, ?_, ?_, ?_, ?_, ?_⟩ <;> omega
set_option maxRecDepth 100000 in
theorem sub_wrap0 (a x : Nat) (ha : a ≤ 4294967295) (hx : x ≤ 1) :
    ∃ y b' : Nat, IntKind.u64.wrap ((a : Int) - x) % 4294967296 = (y : Int) ∧ IntKind.u64.wrap ((a : Int) - x) / 9223372036854775808 = (b' : Int) ∧ b' ≤ 1 ∧ y < 4294967296 ∧ a + 4294967296 * b' = y + 0 + x := by
  rw [IntKind.wrap_u64]
  refine ⟨(((a : Int) - x) % 18446744073709551616 % 4294967296).toNat, (((a : Int) - x) % 18446744073709551616 / 9223372036854775808).toNat, ?_, ?_, ?_, ?_, ?_⟩ <;> omega

end Go.Proofs.YtejmmjedognaaaaGreat

namespace Go.Proofs.YtejmmjedognaaaaGreat
open Go.RowKit

set_option maxRecDepth 100000 in
theorem val_zeros (n : Nat) : Lm.val (List.replicate n 0) = 0 := by
  induction n with
  | zero => rfl
  | succ n ih => rw [List.replicate_succ, Lm.val, ih]

set_option maxRecDepth 100000 in
theorem mul_wrap (x a b z : Nat) (h : x + (a * b + z) < 18446744073709551616) : IntKind.u64.wrap ((x : Int) + IntKind.u64.wrap (IntKind.u64.wrap ((a : Int) * b) + z)) = ((x + (a * b + z) : Nat) : Int) := by
  rw [← Int.natCast_mul]
  generalize a * b = p at *
  rw [IntKind.wrap_u64, IntKind.wrap_u64, IntKind.wrap_u64]
  omega
set_option maxRecDepth 100000 in
theorem castd (x : Nat) : (x : Int) / 4294967296 = ((x / 4294967296 : Nat) : Int) := by omega
set_option maxRecDepth 100000 in
theorem castm (x : Nat) : (x : Int) % 4294967296 = ((x % 4294967296 : Nat) : Int) := by omega
set_option maxRecDepth 100000 in
theorem div_small {x : Nat} (h : x < 18446744073709551616) : x / 4294967296 ≤ 4294967295 := by omega

end Go.Proofs.YtejmmjedognaaaaGreat
