/-
  TERMS WITH THE FIELDS OF THEIR KIND ALONE: which may be, but for their weight. Plain mathematics, and term.mentioned.
  PACKAGE term: alike (slices.Equal of limbs).
  PACKAGE term: bounded; the reference's Blank.
  PACKAGE term: may, May.
  PACKAGE term: same of light terms (no classes are kept), Same of light terms.
  PACKAGE term: Same of light terms.
  ROWS OF TERMS THAT A CALL MAKES: appending to them.
  COPIES: beehivelaw0.CopyTerm, CopyTerms.
-/
import Derived.Test.YtmcfokeibecopaaK6
import Derived.Test.YtmcfokeibecopaaK1
import Derived.Test.YtmcfokeibecopaaK4
import Derived.Test.YtmcfokeibecopaaK5
import Derived.Deep.RegionHeld3
import Derived.Maps.AppendAt
namespace Go.Proofs.Ytmcfokeibecopaa
open Go.RowKit

/-- The record with the fields of its kind alone. -/
def TR.ment (r : TR) : TR :=
  if r.k = 1 ∨ r.k = 4 ∨ r.k = 5 then ⟨r.k, r.n, false, none, 0, 0, 0, ⟨#[]⟩, none, 0, 0⟩
  else if r.k = 2 then ⟨r.k, 0, r.g, r.A, r.ln, r.lc, 0, ⟨#[]⟩, none, 0, 0⟩
  else if r.k = 3 then ⟨r.k, 0, false, none, 0, 0, r.u, ⟨#[]⟩, none, 0, 0⟩
  else if r.k = 6 ∨ r.k = 8 then ⟨r.k, 0, false, none, 0, 0, 0, ⟨#[]⟩, r.B, r.m, r.d⟩
  else if r.k = 7 then ⟨r.k, 0, false, none, 0, 0, 0, ⟨#[]⟩, none, 0, 0⟩
  else if r.k = 9 then ⟨r.k, 0, false, none, 0, 0, 0, r.s, none, 0, 0⟩
  else ⟨0, 0, false, none, 0, 0, 0, ⟨#[]⟩, none, 0, 0⟩
/-- The term with the fields of its kind alone. -/
def Tm.ment : Tm → Tm
  | .mk k n g l u s ks =>
    if k = 1 ∨ k = 4 ∨ k = 5 then .mk k n false [] 0 ⟨#[]⟩ []
    else if k = 2 then .mk k 0 g l 0 ⟨#[]⟩ []
    else if k = 3 then .mk k 0 false [] u ⟨#[]⟩ []
    else if k = 6 ∨ k = 8 then .mk k 0 false [] 0 ⟨#[]⟩ ks
    else if k = 7 then .mk k 0 false [] 0 ⟨#[]⟩ []
    else if k = 9 then .mk k 0 false [] 0 s []
    else .mk 0 0 false [] 0 ⟨#[]⟩ []
set_option maxRecDepth 100000 in
theorem TV.mk' {w : World} {k n : Int} {g : Bool} {A : Option Addr} {ln lc : Nat} {u : Int} {s : ByteArray} {B : Option Addr} {m d : Nat} {l : List Nat} {ks : List Tm}
    (k0 : -9223372036854775808 ≤ k) (k1 : k ≤ 9223372036854775807) (n0 : -9223372036854775808 ≤ n) (n1 : n ≤ 9223372036854775807) (u0 : 0 ≤ u) (u1 : u ≤ 18446744073709551615)
    (lim : Lim w A ln lc l) (cap : lc ≤ maxLen) (str : s.size ≤ maxLen) (h : TVs w B m d ks) : TV w ⟨k, n, g, A, ln, lc, u, s, B, m, d⟩ (.mk k n g l u s ks) :=
  TV.make (r := ⟨k, n, g, A, ln, lc, u, s, B, m, d⟩) ⟨k0, k1, n0, n1, u0, u1, lim, cap, str, h.md, h.dd⟩ h
set_option maxRecDepth 100000 in
theorem TV.ment {w : World} {r : TR} {t : Tm} (h : TV w r t) : TV w r.ment t.ment := by
  cases h with
  | mk _ l ks V hf hm hs hk =>
    have hts : TVs w r.B r.m r.d ks := ⟨hm, hf.md, hf.dd, V, hs, hk⟩
    have z : (0 : Nat) ≤ maxLen := Nat.zero_le _
    have N := TVs.nil w none 0 z
    have L := Lim.nil w none 0
    have E : (⟨#[]⟩ : ByteArray).size ≤ maxLen := z
    have i0 : (-9223372036854775808 : Int) ≤ 0 := by omega
    have i1 : (0 : Int) ≤ 9223372036854775807 := by omega
    have u0 : (0 : Int) ≤ 0 := by omega
    have u1 : (0 : Int) ≤ 18446744073709551615 := by omega
    simp only [TR.ment, Tm.ment]
    by_cases h0 : r.k = 1 ∨ r.k = 4 ∨ r.k = 5
    · rw [if_pos h0, if_pos h0]
      exact TV.mk' hf.k0 hf.k1 hf.n0 hf.n1 u0 u1 L z E N
    rw [if_neg h0, if_neg h0]
    by_cases h1 : r.k = 2
    · rw [if_pos h1, if_pos h1]
      exact TV.mk' hf.k0 hf.k1 i0 i1 u0 u1 hf.lim hf.cap E N
    rw [if_neg h1, if_neg h1]
    by_cases h2 : r.k = 3
    · rw [if_pos h2, if_pos h2]
      exact TV.mk' hf.k0 hf.k1 i0 i1 hf.u0 hf.u1 L z E N
    rw [if_neg h2, if_neg h2]
    by_cases h3 : r.k = 6 ∨ r.k = 8
    · rw [if_pos h3, if_pos h3]
      exact TV.mk' hf.k0 hf.k1 i0 i1 u0 u1 L z E hts
    rw [if_neg h3, if_neg h3]
    by_cases h4 : r.k = 7
    · rw [if_pos h4, if_pos h4]
      exact TV.mk' hf.k0 hf.k1 i0 i1 u0 u1 L z E N
    rw [if_neg h4, if_neg h4]
    by_cases h5 : r.k = 9
    · rw [if_pos h5, if_pos h5]
      exact TV.mk' hf.k0 hf.k1 i0 i1 u0 u1 L z hf.str N
    rw [if_neg h5, if_neg h5]
    exact TV.mk' i0 i1 i0 i1 u0 u1 L z E N

/-- A record that is all noughts. -/
@[reducible] def zeroR : TR := ⟨0, 0, false, none, 0, 0, 0, ⟨#[]⟩, none, 0, 0⟩

set_option maxRecDepth 100000 in
set_option maxHeartbeats 4000000 in
theorem ment_any (w : World) (r : TR) :
    Calls Try.prog 50 #[.agg #[.int .i64 r.k, .int .i64 r.n, .bool r.g, .slice r.A r.ln r.lc, .int .u64 r.u, .string r.s, .slice r.B r.m r.d]] w fun e w' => e = .returned (.agg #[.int .i64 r.ment.k, .int .i64 r.ment.n, .bool r.ment.g, .slice r.ment.A r.ment.ln r.ment.lc, .int .u64 r.ment.u, .string r.ment.s, .slice r.ment.B r.ment.m r.ment.d]) ∧ Below w.heap.size w w' := by
  obtain ⟨V, hV⟩ : ∃ V, V = Ending.returned (.agg #[.int .i64 r.ment.k, .int .i64 r.ment.n, .bool r.ment.g, .slice r.ment.A r.ment.ln r.ment.lc, .int .u64 r.ment.u, .string r.ment.s, .slice r.ment.B r.ment.m r.ment.d]) := ⟨_, rfl⟩
  rw [← hV]
  have HV := Lib.hid hV
  clear hV
  go_enter Try.func50, Try.ntmps50
  go_wp2
  all_goals
    refine bodyPost_ret (v := .agg #[.int .i64 r.ment.k, .int .i64 r.ment.n, .bool r.ment.g, .slice r.ment.A r.ment.ln r.ment.lc, .int .u64 r.ment.u, .string r.ment.s, .slice r.ment.B r.ment.m r.ment.d]) ?_ rfl ⟨HV.out.symm, ((Below.refl _ _).alloc (Nat.le_refl _) _).alloc (by simp) _⟩
    simp_all [results, Try.results50, go_sem, TR.ment]
end Go.Proofs.Ytmcfokeibecopaa

namespace Go.Proofs.Ytmcfokeibecopaa
open Go.RowKit

set_option maxRecDepth 100000 in
set_option maxHeartbeats 800000 in
theorem equal_any (w : World) (A B : Option Addr) (n c m d : Nat) (l k : List Nat) (h : Lim w A n c l) (hn : c ≤ maxLen) (h' : Lim w B m d k) (_hm : d ≤ maxLen) :
    Calls Try.prog 70 #[.slice A n c, .slice B m d] w fun e w' => e = .returned (.bool (decide (l = k))) ∧ ∃ q, w' = w.drewN q := by
  unfold maxLen at hn _hm
  have hnc := h.2.1
  have hmd := h'.2.1
  have hll := Lib.hid h.1
  have hkk := Lib.hid h'.1
  by_cases hnm : n = m
  · subst hnm
    go_enter Try.func70, Try.ntmps70
    go_wp2
    go_loopw [13] (fun i w' => ∃ j : Nat, j ≤ n ∧ i = .int .i64 (j : Int) ∧ (∃ q, w' = w.drewN q) ∧ Hid (∀ t, t < j → Lm.lg l t = Lm.lg k t)) (fun i _ => n - (intOf i).toNat)
    case atStart => exact ⟨0, Nat.zero_le _, rfl, ⟨0, rfl⟩, fun t h1 => by omega⟩
    case round =>
      obtain ⟨j, hj, rfl, ⟨q, rfl⟩, hz⟩ := hrel
      by_cases h0 : j < n
      · obtain ⟨b, o, rfl, hlt, hcell⟩ := h.2.2.2 (by omega)
        obtain ⟨b', o', rfl, hlt', hcell'⟩ := h'.2.2.2 (by omega)
        have hg := hcell j h0
        have hg' := hcell' j h0
        have hpos2 : (j : Int) < (n : Int) := by omega
        clear hcell hcell'
        by_cases hx : Lm.lg l j = Lm.lg k j
        · rw [← hx] at hg'
          have hX := Lib.hid hx
          clear hx
          go_wp2
          go_quiet (fail)
          go_wp2
          go_roundw
          case rel => exact ⟨j + 1, by omega, by go_num, ⟨_, rfl⟩, fun t h1 => by
            by_cases e : t = j
            · rw [e]; exact hX.out
            · exact hz.out t (by omega)⟩
          case measure => simp [intOf]; omega
        · have hne : ((((Lm.lg l j : Nat) : Int) != ((Lm.lg k j : Nat) : Int))) = true := by rw [bne_iff_ne]; omega
          have fin := Lib.hid (show decide (l = k) = false by rw [decide_eq_false_iff_not]; rintro rfl; exact hx rfl)
          go_wp2
          go_quiet (fail)
          go_wp2
          go_ret
          rw [fin.out]
          exact ⟨rfl, _, by rw [World.drewN_drewN]⟩
      · have e := Lm.eq_of_lg (hll.out.trans hkk.out.symm) (fun t ht => hz.out t (by have := hll.out; omega))
        have fin := Lib.hid (show decide (l = k) = true by rw [decide_eq_true_iff]; exact e)
        clear e
        go_wp2
        go_ret
        rw [fin.out]
        exact ⟨rfl, q, rfl⟩
  · have hne : (((n : Nat) : Int) != ((m : Nat) : Int)) = true := by rw [bne_iff_ne]; omega
    have fin := Lib.hid (show decide (l = k) = false by rw [decide_eq_false_iff_not]; rintro rfl; exact hnm (by rw [← hll.out, ← hkk.out]))
    go_enter Try.func70, Try.ntmps70
    go_wp2
    go_ret
    rw [fin.out]
    exact ⟨rfl, 0, rfl⟩

/-- Are two terms the same, but for their arguments, of which only how many they are is held? -/
def Tm.alikeB (a b : Tm) : Bool := (((((a.kind == b.kind) && (a.num == b.num)) && (a.bits == b.bits)) && decide (a.bytes = b.bytes)) && (a.neg == b.neg)) && (decide (a.mag = b.mag) && (a.args.length == b.args.length))

set_option maxRecDepth 100000 in
theorem toList_ne {s s' : ByteArray} (h : ¬ s = s') : ¬ s.toList = s'.toList := fun e => h (by
  apply ByteArray.ext
  apply Array.ext'
  rw [← ByteArray.toList_eq, ← ByteArray.toList_eq]
  exact e)
set_option maxRecDepth 100000 in
set_option maxHeartbeats 2000000 in
theorem alike_raw (w : World) (k n : Int) (g : Bool) (A : Option Addr) (ln lc : Nat) (u : Int) (s : ByteArray) (B : Option Addr) (m d : Nat)
    (k' n' : Int) (g' : Bool) (A' : Option Addr) (ln' lc' : Nat) (u' : Int) (s' : ByteArray) (B' : Option Addr) (m' d' : Nat) (l l' : List Nat) (hl : Lim w A ln lc l) (hc : lc ≤ maxLen) (hl' : Lim w A' ln' lc' l') (hc' : lc' ≤ maxLen)
    (R : Bool) (HR : Hid (R = ((((((k == k') && (n == n')) && (u == u')) && decide (s = s')) && (g == g')) && (decide (l = l') && (m == m'))))) :
    Calls Try.prog 49 #[.agg #[.int .i64 k, .int .i64 n, .bool g, .slice A ln lc, .int .u64 u, .string s, .slice B m d], .agg #[.int .i64 k', .int .i64 n', .bool g', .slice A' ln' lc', .int .u64 u', .string s', .slice B' m' d']] w fun e w' => e = .returned (.bool R) ∧ Below w.heap.size w w' := by
  have hb0 := ((Below.refl w.heap.size w).alloc (Nat.le_refl _) (.cells #[.int .i64 k, .int .i64 n, .bool g, .slice A ln lc, .int .u64 u, .string s, .slice B m d] 28)).alloc (by simp) (.cells #[.int .i64 k', .int .i64 n', .bool g', .slice A' ln' lc', .int .u64 u', .string s', .slice B' m' d'] 28)
  by_cases ne : k = k'
  case neg =>
    have hfin := Lib.hid (show R = false by rw [HR.out, show (k == k') = false by rw [beq_eq_false_iff_ne]; exact ne]; simp)
    have ne' : (k == k') = false := by rw [beq_eq_false_iff_ne]; exact ne
    go_enter Try.func49, Try.ntmps49
    go_wp2
    go_ret
    exact ⟨by rw [hfin.out]; rfl, hb0⟩
  subst ne
  by_cases ne : n = n'
  case neg =>
    have hfin := Lib.hid (show R = false by rw [HR.out, show (n == n') = false by rw [beq_eq_false_iff_ne]; exact ne]; simp)
    have ne' : (n == n') = false := by rw [beq_eq_false_iff_ne]; exact ne
    go_enter Try.func49, Try.ntmps49
    go_wp2
    go_ret
    exact ⟨by rw [hfin.out]; rfl, hb0⟩
  subst ne
  by_cases ne : u = u'
  case neg =>
    have hfin := Lib.hid (show R = false by rw [HR.out, show (u == u') = false by rw [beq_eq_false_iff_ne]; exact ne]; simp)
    have ne' : (u == u') = false := by rw [beq_eq_false_iff_ne]; exact ne
    go_enter Try.func49, Try.ntmps49
    go_wp2
    go_ret
    exact ⟨by rw [hfin.out]; rfl, hb0⟩
  subst ne
  by_cases ne : s = s'
  case neg =>
    have hfin := Lib.hid (show R = false by rw [HR.out, decide_eq_false ne]; simp)
    have ne' := toList_ne ne
    go_enter Try.func49, Try.ntmps49
    go_wp2
    go_ret
    exact ⟨by rw [hfin.out]; rfl, hb0⟩
  subst ne
  by_cases ne : g = g'
  case neg =>
    have hfin := Lib.hid (show R = false by rw [HR.out, show (g == g') = false by rw [beq_eq_false_iff_ne]; exact ne]; simp)
    go_enter Try.func49, Try.ntmps49
    go_wp2
    go_ret
    exact ⟨by rw [hfin.out]; rfl, hb0⟩
  subst ne
  have hx := (Box7.new w (TR.mk k n g A ln lc u s B m d)).below ((Below.refl _ _).alloc (Nat.le_refl _) (.cells #[.int .i64 (TR.mk k n g A' ln' lc' u s B' m' d').k, .int .i64 (TR.mk k n g A' ln' lc' u s B' m' d').n, .bool (TR.mk k n g A' ln' lc' u s B' m' d').g, .slice (TR.mk k n g A' ln' lc' u s B' m' d').A (TR.mk k n g A' ln' lc' u s B' m' d').ln (TR.mk k n g A' ln' lc' u s B' m' d').lc, .int .u64 (TR.mk k n g A' ln' lc' u s B' m' d').u, .string (TR.mk k n g A' ln' lc' u s B' m' d').s, .slice (TR.mk k n g A' ln' lc' u s B' m' d').B (TR.mk k n g A' ln' lc' u s B' m' d').m (TR.mk k n g A' ln' lc' u s B' m' d').d] 28))
  have hy := Box7.new (w.alloc (.cells #[.int .i64 (TR.mk k n g A ln lc u s B m d).k, .int .i64 (TR.mk k n g A ln lc u s B m d).n, .bool (TR.mk k n g A ln lc u s B m d).g, .slice (TR.mk k n g A ln lc u s B m d).A (TR.mk k n g A ln lc u s B m d).ln (TR.mk k n g A ln lc u s B m d).lc, .int .u64 (TR.mk k n g A ln lc u s B m d).u, .string (TR.mk k n g A ln lc u s B m d).s, .slice (TR.mk k n g A ln lc u s B m d).B (TR.mk k n g A ln lc u s B m d).m (TR.mk k n g A ln lc u s B m d).d] 28)) (TR.mk k n g A' ln' lc' u s B' m' d')
  rw [World.size_alloc] at hy
  have hl0 := hl.below hb0
  have hl0' := hl'.below hb0
  have hcase := Lib.hid (show R = (decide (l = l') && (m == m')) by rw [HR.out]; simp)
  clear HR
  go_enter Try.func49, Try.ntmps49
  go_wp2_with fail
  generalize (w.alloc (.cells #[.int .i64 (TR.mk k n g A ln lc u s B m d).k, .int .i64 (TR.mk k n g A ln lc u s B m d).n, .bool (TR.mk k n g A ln lc u s B m d).g, .slice (TR.mk k n g A ln lc u s B m d).A (TR.mk k n g A ln lc u s B m d).ln (TR.mk k n g A ln lc u s B m d).lc, .int .u64 (TR.mk k n g A ln lc u s B m d).u, .string (TR.mk k n g A ln lc u s B m d).s, .slice (TR.mk k n g A ln lc u s B m d).B (TR.mk k n g A ln lc u s B m d).m (TR.mk k n g A ln lc u s B m d).d] 28)).alloc (.cells #[.int .i64 (TR.mk k n g A' ln' lc' u s B' m' d').k, .int .i64 (TR.mk k n g A' ln' lc' u s B' m' d').n, .bool (TR.mk k n g A' ln' lc' u s B' m' d').g, .slice (TR.mk k n g A' ln' lc' u s B' m' d').A (TR.mk k n g A' ln' lc' u s B' m' d').ln (TR.mk k n g A' ln' lc' u s B' m' d').lc, .int .u64 (TR.mk k n g A' ln' lc' u s B' m' d').u, .string (TR.mk k n g A' ln' lc' u s B' m' d').s, .slice (TR.mk k n g A' ln' lc' u s B' m' d').B (TR.mk k n g A' ln' lc' u s B' m' d').m (TR.mk k n g A' ln' lc' u s B' m' d').d] 28) = W at *
  refine (equal_any W A A' ln lc ln' lc' l l' hl0 hc hl0' hc').mono ?_
  rintro e w1 ⟨rfl, q, rfl⟩
  have y6 : (W.drewN q).cell? ⟨w.heap.size, 6, none⟩ = some (.slice B m d) := hx.at.c6
  have x6 : (W.drewN q).cell? ⟨w.heap.size + 1, 6, none⟩ = some (.slice B' m' d') := hy.at.c6
  have hb1 : Below w.heap.size w (W.drewN q) := hb0.drewN' q
  generalize W.drewN q = W1 at *
  cases e5 : decide (l = l') with
  | false =>
    have hfin := Lib.hid (show R = false by rw [hcase.out, e5]; rfl)
    go_wp2
    go_ret
    exact ⟨by rw [hfin.out]; rfl, hb1⟩
  | true =>
    have hfin := Lib.hid (show R = ((m : Int) == (m' : Int)) by
      rw [hcase.out, e5, Bool.true_and]
      by_cases e : m = m'
      · subst e; simp
      · rw [beq_eq_false_iff_ne.2 e, beq_eq_false_iff_ne.2 (by omega)])
    go_wp2
    go_ret
    exact ⟨by rw [hfin.out]; rfl, hb1⟩

set_option maxRecDepth 100000 in
theorem alike_any (w : World) (r : TR) (t : Tm) (h : TV w r t) (r' : TR) (t' : Tm) (h' : TV w r' t') :
    Calls Try.prog 49 #[.agg #[.int .i64 r.k, .int .i64 r.n, .bool r.g, .slice r.A r.ln r.lc, .int .u64 r.u, .string r.s, .slice r.B r.m r.d], .agg #[.int .i64 r'.k, .int .i64 r'.n, .bool r'.g, .slice r'.A r'.ln r'.lc, .int .u64 r'.u, .string r'.s, .slice r'.B r'.m r'.d]] w fun e w' => e = .returned (.bool (Tm.alikeB t t')) ∧ Below w.heap.size w w' :=
  alike_raw w r.k r.n r.g r.A r.ln r.lc r.u r.s r.B r.m r.d r'.k r'.n r'.g r'.A r'.ln r'.lc r'.u r'.s r'.B r'.m r'.d t.mag t'.mag h.flat.lim h.flat.cap h'.flat.lim h'.flat.cap _ (Lib.hid (by
    unfold Tm.alikeB
    rw [h.kind, h.num, h.bits, h.bytes, h.neg, h'.kind, h'.num, h'.bits, h'.bytes, h'.neg, h.len, h'.len]))
end Go.Proofs.Ytmcfokeibecopaa

namespace Go.Proofs.Ytmcfokeibecopaa
open Go.RowKit

/-- Do the fields keep the bounds of their kind? -/
def Tm.boundB (t : Tm) : Bool :=
  if t.kind = 1 then decide (-1152921504606846976 ≤ t.num) && decide (t.num ≤ 1152921504606846975)
  else if t.kind = 2 then mayB t.neg t.mag && !smOk t.neg t.mag
  else if t.kind = 3 then cleanI t.bits == t.bits
  else if t.kind = 4 then decide (0 ≤ t.num) && decide (t.num ≤ 255)
  else if t.kind = 5 then decide (0 ≤ t.num) && decide (t.num ≤ 63)
  else if t.kind = 6 then decide (t.args.length ≤ 8)
  else if t.kind = 7 then true
  else if t.kind = 8 then decide (t.args.length = 2)
  else if t.kind = 9 then decide (t.bytes.size ≤ 400)
  else false

set_option maxRecDepth 100000 in
set_option maxHeartbeats 4000000 in
theorem bounded_any' (w : World) (k n : Int) (g : Bool) (A : Option Addr) (ln lc : Nat) (u : Int) (s : ByteArray) (B : Option Addr) (m d : Nat) (t : Tm) (h : TV w (TR.mk k n g A ln lc u s B m d) t) :
    Calls Try.prog 51 #[.agg #[.int .i64 k, .int .i64 n, .bool g, .slice A ln lc, .int .u64 u, .string s, .slice B m d]] w fun e w' => e = .returned (.bool t.boundB) ∧ Below w.heap.size w w' := by
  obtain ⟨R, hR⟩ : ∃ R, R = t.boundB := ⟨_, rfl⟩
  rw [← hR]
  have e1 : t.kind = k := h.kind
  have e2 : t.num = n := h.num
  have e3 : t.bits = u := h.bits
  have e4 : t.neg = g := h.neg
  have e5 : t.bytes = s := h.bytes
  have e6 : t.args.length = m := h.len
  unfold Tm.boundB at hR
  rw [e1, e2, e3, e4, e5, e6] at hR
  have hraw : Raw w A ln lc t.mag := ⟨h.flat.lim, h.flat.cap⟩
  have hu : U64 u := ⟨h.flat.u0, by have := h.flat.u1; simp only at this; omega⟩
  have hstr : s.size ≤ maxLen := h.flat.str
  have hmd : m ≤ d := h.flat.md
  have hdd : d ≤ maxLen := h.flat.dd
  have hb0 := (Below.refl w.heap.size w).alloc (Nat.le_refl _) (.cells #[.int .i64 k, .int .i64 n, .bool g, .slice A ln lc, .int .u64 u, .string s, .slice B m d] 28)
  have hraw0 := hraw.below hb0
  have hbx := Box7.new w (TR.mk k n g A ln lc u s B m d)
  generalize t.mag = l at *
  clear e1 e2 e3 e4 e5 e6 h hraw
  have HR := Lib.hid hR
  clear hR
  by_cases h1 : k = 1
  · subst h1
    have hfin := Lib.hid (show R = (decide (-1152921504606846976 ≤ n) && decide (n ≤ 1152921504606846975)) by rw [HR.out]; rfl)
    clear HR hbx
    go_enter Try.func51, Try.ntmps51
    go_wp2
    all_goals
      go_ret
      refine ⟨?_, hb0⟩
      rw [hfin.out]
      first | (simp_all; done) | (simp_all; omega)
  by_cases h2 : k = 2
  · subst h2
    have hfin := Lib.hid (show R = (mayB g l && !smOk g l) by rw [HR.out]; rfl)
    clear HR
    go_enter Try.func51, Try.ntmps51
    go_wp2_with fail
    generalize w.alloc (.cells #[.int .i64 2, .int .i64 n, .bool g, .slice A ln lc, .int .u64 u, .string s, .slice B m d] 28) = W at *
    refine (small_raw W g A ln lc l hraw0).mono ?_
    generalize smZ g l = z
    generalize smOk g l = ok at hfin ⊢
    rintro e w1 ⟨rfl, hb1⟩
    have hbx1 := (hbx.below hb1).at
    have y2 := hbx1.c2
    have y3 := hbx1.c3
    go_wp2_with fail
    refine (may_b w1 g A ln lc l (hraw0.below hb1)).mono ?_
    generalize mayB g l = mb at hfin ⊢
    rintro e w2 ⟨rfl, hb2⟩
    have hb02 := hb0.trans (hb1.mono hb0.size)
    have hb03 := hb02.trans (hb2.mono hb02.size)
    cases mb
    all_goals
      go_wp2
      go_ret
      exact ⟨by rw [hfin.out]; rfl, hb03⟩
  by_cases h3 : k = 3
  · subst h3
    have hfin := Lib.hid (show R = (cleanI u == u) by rw [HR.out]; rfl)
    clear HR hbx
    go_enter Try.func51, Try.ntmps51
    go_wp2_with fail
    refine (may_flt _ u hu).mono ?_
    generalize (cleanI u == u) = c at hfin ⊢
    rintro e w1 ⟨rfl, rfl⟩
    go_wp2
    go_ret
    exact ⟨by rw [hfin.out]; rfl, hb0⟩
  by_cases h4 : k = 4
  · subst h4
    have hfin := Lib.hid (show R = (decide (0 ≤ n) && decide (n ≤ 255)) by rw [HR.out]; rfl)
    clear HR hbx
    go_enter Try.func51, Try.ntmps51
    go_wp2
    all_goals
      go_ret
      refine ⟨?_, hb0⟩
      rw [hfin.out]
      first | (simp_all; done) | (simp_all; omega)
  by_cases h5 : k = 5
  · subst h5
    have hfin := Lib.hid (show R = (decide (0 ≤ n) && decide (n ≤ 63)) by rw [HR.out]; rfl)
    clear HR hbx
    go_enter Try.func51, Try.ntmps51
    go_wp2
    all_goals
      go_ret
      refine ⟨?_, hb0⟩
      rw [hfin.out]
      first | (simp_all; done) | (simp_all; omega)
  by_cases h6 : k = 6
  · subst h6
    have hfin := Lib.hid (show R = decide ((m : Int) ≤ 8) by rw [HR.out]; simp; omega)
    clear HR hbx
    go_enter Try.func51, Try.ntmps51
    go_wp2
    go_ret
    exact ⟨by rw [hfin.out]; rfl, hb0⟩
  by_cases h7 : k = 7
  · subst h7
    have hfin := Lib.hid (show R = true by rw [HR.out]; rfl)
    clear HR hbx
    go_enter Try.func51, Try.ntmps51
    go_wp2
    go_ret
    exact ⟨by rw [hfin.out]; rfl, hb0⟩
  by_cases h8 : k = 8
  · subst h8
    have hfin := Lib.hid (show R = ((m : Int) == 2) by
      rw [HR.out]
      by_cases e : m = 2
      · subst e; rfl
      · rw [beq_eq_false_iff_ne.2 (show (m : Int) ≠ 2 by omega)]
        simp [e])
    clear HR hbx
    go_enter Try.func51, Try.ntmps51
    go_wp2
    go_ret
    exact ⟨by rw [hfin.out]; rfl, hb0⟩
  by_cases h9 : k = 9
  · subst h9
    have hfin := Lib.hid (show R = decide ((s.size : Int) ≤ 400) by rw [HR.out]; simp; omega)
    clear HR hbx
    go_enter Try.func51, Try.ntmps51
    go_wp2
    go_ret
    exact ⟨by rw [hfin.out]; rfl, hb0⟩
  have hfin := Lib.hid (show R = false by rw [HR.out, if_neg h1, if_neg h2, if_neg h3, if_neg h4, if_neg h5, if_neg h6, if_neg h7, if_neg h8, if_neg h9])
  clear HR hbx
  have e1 : (k == 1) = false := beq_eq_false_iff_ne.2 h1
  have e2 : (k == 2) = false := beq_eq_false_iff_ne.2 h2
  have e3 : (k == 3) = false := beq_eq_false_iff_ne.2 h3
  have e4 : (k == 4) = false := beq_eq_false_iff_ne.2 h4
  have e5 : (k == 5) = false := beq_eq_false_iff_ne.2 h5
  have e6 : (k == 6) = false := beq_eq_false_iff_ne.2 h6
  have e7 : (k == 7) = false := beq_eq_false_iff_ne.2 h7
  have e8 : (k == 8) = false := beq_eq_false_iff_ne.2 h8
  have e9 : (k == 9) = false := beq_eq_false_iff_ne.2 h9
  go_enter Try.func51, Try.ntmps51
  go_wp2
  go_ret
  exact ⟨by rw [hfin.out]; rfl, hb0⟩
set_option maxRecDepth 100000 in
theorem tbounded_any (w : World) (r : TR) (t : Tm) (h : TV w r t) :
    Calls Try.prog 51 #[.agg #[.int .i64 r.k, .int .i64 r.n, .bool r.g, .slice r.A r.ln r.lc, .int .u64 r.u, .string r.s, .slice r.B r.m r.d]] w fun e w' => e = .returned (.bool t.boundB) ∧ Below w.heap.size w w' :=
  bounded_any' w r.k r.n r.g r.A r.ln r.lc r.u r.s r.B r.m r.d t h
end Go.Proofs.Ytmcfokeibecopaa

namespace Go.Proofs.Ytmcfokeibecopaa
open Go.RowKit

mutual
/-- May a term be, but for its weight? -/
def Tm.formB : Tm → Bool
  | .mk k n g l u s ks => Tm.alikeB (.mk k n g l u s ks) (Tm.ment (.mk k n g l u s ks)) && (Tm.boundB (.mk k n g l u s ks) && Tm.formsB ks)
def Tm.formsB : List Tm → Bool
  | [] => true
  | t :: r => Tm.formB t && Tm.formsB r
end
set_option maxRecDepth 100000 in
theorem Tm.formsB_iff {ts : List Tm} : Tm.formsB ts = true ↔ ∀ t ∈ ts, t.formB = true := by
  induction ts with
  | nil => simp [Tm.formsB]
  | cons t r ih => simp [Tm.formsB, ih]
set_option maxRecDepth 100000 in
theorem Tm.formB_eq (t : Tm) : t.formB = (Tm.alikeB t t.ment && (t.boundB && Tm.formsB t.args)) := by cases t; rw [Tm.formB]; rfl
set_option maxRecDepth 100000 in
theorem Tm.formsB_no {ts : List Tm} {j : Nat} {t : Tm} (h : ts[j]? = some t) (e : t.formB = false) : Tm.formsB ts = false := by
  cases h' : Tm.formsB ts with
  | false => rfl
  | true => rw [Tm.formsB_iff.1 h' t (List.mem_of_getElem? h)] at e; cases e
set_option maxRecDepth 100000 in
theorem Tm.formsB_take {ts : List Tm} {j : Nat} {t : Tm} (h : ts[j]? = some t) (e : t.formB = true) (h' : Tm.formsB (ts.take j) = true) : Tm.formsB (ts.take (j + 1)) = true := by
  rw [Tm.formsB_iff] at h' ⊢
  rw [List.take_add_one, h]
  intro x hx
  rcases List.mem_append.1 hx with hx | hx
  · exact h' x hx
  · simp at hx; rw [hx]; exact e

/-- A variable holds a term, in its own block. -/
structure BxI (w : World) (r : TR) (t : Tm) (W : World) : Prop where
  bx : Box7 W w.heap.size r
  tv : TV W r t
  be : Below w.heap.size w W
set_option maxRecDepth 100000 in
theorem BxI.below {w : World} {r : TR} {t : Tm} {W W' : World} (h : BxI w r t W) (hb : Below W.heap.size W W') : BxI w r t W' :=
  ⟨h.bx.below hb, h.tv.bel hb, h.be.trans (hb.mono h.be.size)⟩
set_option maxRecDepth 100000 in
theorem BxI.drew {w : World} {r : TR} {t : Tm} {W : World} (h : BxI w r t W) : BxI w r t W.drew := h.below (Below.refl _ _).drew
set_option maxRecDepth 100000 in
theorem BxI.new {w : World} {r : TR} {t : Tm} (h : TV w r t) : BxI w r t (w.alloc (.cells #[.int .i64 r.k, .int .i64 r.n, .bool r.g, .slice r.A r.ln r.lc, .int .u64 r.u, .string r.s, .slice r.B r.m r.d] 28)) :=
  ⟨Box7.new w r, h.bel ((Below.refl _ _).alloc (Nat.le_refl _) _), (Below.refl _ _).alloc (Nat.le_refl _) _⟩

set_option maxRecDepth 100000 in
set_option maxRecDepth 100000 in
set_option maxHeartbeats 8000000 in
theorem mayT_any (t : Tm) : ∀ (w : World) (r : TR), TV w r t →
    Calls Try.prog 28 #[.agg #[.int .i64 r.k, .int .i64 r.n, .bool r.g, .slice r.A r.ln r.lc, .int .u64 r.u, .string r.s, .slice r.B r.m r.d]] w fun e w' => e = .returned (.bool t.formB) ∧ Below w.heap.size w w' := by
  induction t using Tm.ind with
  | h k n g l u s ks ih =>
    intro w r htv
    have IH := Lib.hid ih
    clear ih
    obtain ⟨t, ht⟩ : ∃ t, t = Tm.mk k n g l u s ks := ⟨_, rfl⟩
    have hks : t.args = ks := by rw [ht]; rfl
    rw [← hks] at IH
    rw [← ht] at htv ⊢
    clear hks ht
    obtain ⟨R, hR⟩ : ∃ R, R = t.formB := ⟨_, rfl⟩
    rw [← hR]
    rw [Tm.formB_eq] at hR
    have HR := Lib.hid hR
    clear hR
    have hts := htv.args
    have hml : r.m ≤ maxLen := Nat.le_trans hts.md hts.dd
    have hml' : (r.m : Int) ≤ 9223372036854775807 := by unfold maxLen at hml; omega
    have I := BxI.new htv
    clear htv hts
    go_enter Try.func28, Try.ntmps28
    go_wp2_with fail
    generalize w.alloc (.cells #[.int .i64 r.k, .int .i64 r.n, .bool r.g, .slice r.A r.ln r.lc, .int .u64 r.u, .string r.s, .slice r.B r.m r.d] 28) = W at *
    have y := I.bx.at
    have y0 := y.c0
    have y1 := y.c1
    have y2 := y.c2
    have y3 := y.c3
    have y4 := y.c4
    have y5 := y.c5
    have y6 := y.c6
    have I3 := I.drew
    clear y I
    cases ha : Tm.alikeB t t.ment with
    | false =>
      have hfin := Lib.hid (show R = false by rw [HR.out, ha]; rfl)
      clear HR
      go_region_with (first
          | (go_at_call 50; have I' := I3; clear I3; refine (ment_any _ r).mono ?_; rintro e v ⟨rfl, hv⟩; have I3 := I'.below hv; clear I' hv y0 y1 y2 y3 y4 y5 y6; have y0 := I3.bx.at.c0; have y1 := I3.bx.at.c1; have y2 := I3.bx.at.c2; have y3 := I3.bx.at.c3; have y4 := I3.bx.at.c4; have y5 := I3.bx.at.c5; have y6 := I3.bx.at.c6)
          | (go_at_call 49; have I' := I3; clear I3; refine (alike_any _ r t (by exact I'.tv) r.ment t.ment (by exact I'.tv.ment)).mono ?_; rw [ha]; rintro e v ⟨rfl, hv⟩; have I3 := I'.below hv; clear I' hv y0 y1 y2 y3 y4 y5 y6; have y0 := I3.bx.at.c0; have y1 := I3.bx.at.c1; have y2 := I3.bx.at.c2; have y3 := I3.bx.at.c3; have y4 := I3.bx.at.c4; have y5 := I3.bx.at.c5; have y6 := I3.bx.at.c6))
      all_goals
        go_wp2
        go_ret
        exact ⟨by rw [hfin.out]; rfl, I3.be⟩
    | true =>
      have hcase := Lib.hid (show R = (t.boundB && Tm.formsB t.args) by rw [HR.out, ha]; rfl)
      clear HR
      go_region_held3 (fun w' => w'.cell? ⟨w.heap.size, 0, none⟩ = some (.int .i64 r.k) ∧ w'.cell? ⟨w.heap.size, 1, none⟩ = some (.int .i64 r.n) ∧ w'.cell? ⟨w.heap.size, 2, none⟩ = some (.bool r.g) ∧ w'.cell? ⟨w.heap.size, 3, none⟩ = some (.slice r.A r.ln r.lc) ∧ w'.cell? ⟨w.heap.size, 4, none⟩ = some (.int .u64 r.u) ∧ w'.cell? ⟨w.heap.size, 5, none⟩ = some (.string r.s) ∧ w'.cell? ⟨w.heap.size, 6, none⟩ = some (.slice r.B r.m r.d))
        (first | exact ⟨y0, y1, y2, y3, y4, y5, y6⟩ | exact ⟨I3.bx.at.c0, I3.bx.at.c1, I3.bx.at.c2, I3.bx.at.c3, I3.bx.at.c4, I3.bx.at.c5, I3.bx.at.c6⟩)
        (first
          | (go_at_call 50; have I' := I3; clear I3; refine (ment_any _ r).mono ?_; rintro e v ⟨rfl, hv⟩; have I3 := I'.below hv; clear I' hv)
          | (go_at_call 49; have I' := I3; clear I3; refine (alike_any _ r t (by exact I'.tv) r.ment t.ment (by exact I'.tv.ment)).mono ?_; rw [ha]; rintro e v ⟨rfl, hv⟩; have I3 := I'.below hv; clear I' hv)
          | (go_at_call 51; have I' := I3; clear I3; refine (tbounded_any _ r t (by exact I'.tv)).mono ?_; rintro e v ⟨rfl, hv⟩; have I3 := I'.below hv; clear I' hv))
      clear y0 y1 y2 y3 y4 y5 y6
      generalize t.boundB = bd at hcase ⊢
      cases bd with
      | false =>
        have hfin := Lib.hid (show R = false by rw [hcase.out]; rfl)
        go_wp2
        go_ret
        exact ⟨by rw [hfin.out]; rfl, I3.be⟩
      | true =>
        have hfin := Lib.hid (show R = Tm.formsB t.args by rw [hcase.out]; rfl)
        clear hcase
        have z6 := I3.bx.at.c6
        simp only [Bool.not_true]
        go_wp2_with fail
        clear z6
        go_loopw [17] (fun i w' => ∃ j : Nat, j ≤ r.m ∧ i = .int .i64 (j : Int) ∧ Hid (Tm.formsB (t.args.take j) = true) ∧ BxI w r t w') (fun i _ => r.m - (intOf i).toNat)
        case atStart => exact ⟨0, Nat.zero_le _, rfl, Lib.hid rfl, I3⟩
        case round =>
          obtain ⟨j, hj, rfl, hz, J⟩ := hrel
          clear I3
          by_cases hjm : j < r.m
          · have hd1 : decide ((j : Int) < (r.m : Int)) = true := by rw [decide_eq_true_iff]; omega
            obtain ⟨b, o, r', t', e, hlt, h7, het, htv'⟩ := J.tv.args.get j hjm
            have hmem := List.mem_of_getElem? het
            have x6 : wr.cell? ⟨w.heap.size, 6, none⟩ = some (.slice r.B r.m r.d) := J.bx.at.c6
            rw [e] at x6
            clear e
            have d0 := h7.c0
            have d1 := h7.c1
            have d2 := h7.c2
            have d3 := h7.c3
            have d4 := h7.c4
            have d5 := h7.c5
            have d6 := h7.c6
            have HJ := Lib.hid J
            clear J
            go_wp2_with fail
            refine (IH.out t' hmem wr r' htv').mono ?_
            rintro e w2 ⟨rfl, hb2⟩
            have J2 := Lib.hid (HJ.out.below hb2)
            cases hf : t'.formB with
            | false =>
              have hfi := Lib.hid (show R = false by rw [hfin.out]; exact Tm.formsB_no het hf)
              go_wp2
              go_ret
              exact ⟨by rw [hfi.out]; rfl, J2.out.be⟩
            | true =>
              have hst := Lib.hid (Tm.formsB_take het hf hz.out)
              go_wp2_with fail
              go_roundw
              case rel => exact ⟨j + 1, by omega, by go_num, hst, J2.out⟩
              case measure => simp [intOf]; omega
          · have hd1 : decide ((j : Int) < (r.m : Int)) = false := by rw [decide_eq_false_iff_not]; omega
            have hfi := Lib.hid (show R = true by
              rw [hfin.out]
              have := hz.out
              rw [List.take_of_length_le (by rw [J.tv.len]; omega)] at this
              exact this)
            go_wp2
            go_ret
            exact ⟨by rw [hfi.out]; rfl, J.be⟩

/-- May a term be? -/
def Tm.mayB (t : Tm) : Bool := decide (t.cap ≤ 300) && t.formB

set_option maxRecDepth 100000 in
set_option maxHeartbeats 2000000 in
theorem mayTerm_any (w : World) (r : TR) (t : Tm) (h : TV w r t) (ho : t.Ok) :
    Calls Try.prog 17 #[.agg #[.int .i64 r.k, .int .i64 r.n, .bool r.g, .slice r.A r.ln r.lc, .int .u64 r.u, .string r.s, .slice r.B r.m r.d]] w fun e w' => e = .returned (.bool t.mayB) ∧ Below w.heap.size w w' := by
  obtain ⟨R, hR⟩ : ∃ R, R = t.mayB := ⟨_, rfl⟩
  rw [← hR]
  have HR := Lib.hid hR
  clear hR
  have I := BxI.new h
  go_enter Try.func17, Try.ntmps17
  go_wp2_with fail
  generalize w.alloc (.cells #[.int .i64 r.k, .int .i64 r.n, .bool r.g, .slice r.A r.ln r.lc, .int .u64 r.u, .string r.s, .slice r.B r.m r.d] 28) = W at *
  refine (weight_any W r t I.tv ho).mono ?_
  rintro e w1 ⟨rfl, hb1⟩
  have I1 := I.below hb1
  clear I
  have y := I1.bx.at
  have y0 := y.c0
  have y1 := y.c1
  have y2 := y.c2
  have y3 := y.c3
  have y4 := y.c4
  have y5 := y.c5
  have y6 := y.c6
  by_cases hc : t.cap ≤ 300
  · have hfin := Lib.hid (show R = t.formB by rw [HR.out, Tm.mayB, decide_eq_true hc]; rfl)
    have hd : decide ((t.cap : Int) ≤ 300) = true := by rw [decide_eq_true_iff]; omega
    clear HR hc y
    go_wp2_with fail
    refine (mayT_any t w1 r I1.tv).mono ?_
    rintro e w2 ⟨rfl, hb2⟩
    have I2 := I1.below hb2
    generalize t.formB = f at hfin ⊢
    go_wp2
    go_ret
    exact ⟨by rw [hfin.out]; rfl, I2.be⟩
  · have hfin := Lib.hid (show R = false by rw [HR.out, Tm.mayB, decide_eq_false hc]; rfl)
    have hd : decide ((t.cap : Int) ≤ 300) = false := by rw [decide_eq_false_iff_not]; omega
    clear HR hc y
    go_wp2
    go_ret
    exact ⟨by rw [hfin.out]; rfl, I1.be⟩
end Go.Proofs.Ytmcfokeibecopaa

namespace Go.Proofs.Ytmcfokeibecopaa
open Go.RowKit

mutual
/-- Are two terms the same in what is mentioned for their kind? -/
def Tm.sameB : Tm → Tm → Bool
  | .mk k n g l u s ks, b => Tm.alikeB (Tm.ment (.mk k n g l u s ks)) (Tm.ment b) && (if k = 6 ∨ k = 8 then Tm.samesB ks b.args else true)
def Tm.samesB : List Tm → List Tm → Bool
  | [], _ => true
  | _ :: _, [] => false
  | t :: r, x :: y => Tm.sameB t x && Tm.samesB r y
end
set_option maxRecDepth 100000 in
theorem Tm.ment_args (t : Tm) : t.ment.args = if t.kind = 6 ∨ t.kind = 8 then t.args else [] := by
  cases t with
  | mk k n g l u s ks =>
    have e : Tm.kind (.mk k n g l u s ks) = k := rfl
    have e' : Tm.args (.mk k n g l u s ks) = ks := rfl
    rw [e, e']
    simp only [Tm.ment]
    by_cases h1 : k = 6 ∨ k = 8
    · rw [if_neg (show ¬ (k = 1 ∨ k = 4 ∨ k = 5) by omega), if_neg (show ¬ k = 2 by omega), if_neg (show ¬ k = 3 by omega), if_pos h1, if_pos h1]; rfl
    · rw [if_neg h1, if_neg h1]
      split
      · rfl
      split
      · rfl
      split
      · rfl
      split
      · rfl
      split <;> rfl
set_option maxRecDepth 100000 in
theorem Tm.ment_kind {t : Tm} (h : t.ment.kind = 6 ∨ t.ment.kind = 8) : t.kind = t.ment.kind := by
  cases t with
  | mk k n g l u s ks =>
    have e : Tm.kind (.mk k n g l u s ks) = k := rfl
    rw [e]
    revert h
    simp only [Tm.ment]
    split
    · exact fun _ => rfl
    split
    · exact fun _ => rfl
    split
    · exact fun _ => rfl
    split
    · exact fun _ => rfl
    split
    · exact fun _ => rfl
    split
    · exact fun _ => rfl
    · intro h; rcases h with h | h <;> exact absurd h (by simp [Tm.kind])
set_option maxRecDepth 100000 in
theorem Tm.ment_kind' {t : Tm} (h : t.kind = 6 ∨ t.kind = 8) : t.ment.kind = t.kind := by
  cases t with
  | mk k n g l u s ks =>
    have e : Tm.kind (.mk k n g l u s ks) = k := rfl
    rw [e] at h ⊢
    simp only [Tm.ment]
    rw [if_neg (show ¬ (k = 1 ∨ k = 4 ∨ k = 5) by omega), if_neg (show ¬ k = 2 by omega), if_neg (show ¬ k = 3 by omega), if_pos h]; rfl
set_option maxRecDepth 100000 in
theorem Tm.alike_kind {a b : Tm} (h : Tm.alikeB a b = true) : a.kind = b.kind ∧ a.args.length = b.args.length := by
  unfold Tm.alikeB at h
  simp only [Bool.and_eq_true, beq_iff_eq] at h
  exact ⟨h.1.1.1.1.1, h.2.2⟩
set_option maxRecDepth 100000 in
/-- By the arguments that are mentioned. -/
theorem Tm.sameB_eq (a b : Tm) : Tm.sameB a b = (Tm.alikeB a.ment b.ment && Tm.samesB a.ment.args b.ment.args) := by
  cases h : Tm.alikeB a.ment b.ment with
  | false => cases a; rw [Tm.sameB, h]; rfl
  | true =>
    obtain ⟨hk, _⟩ := Tm.alike_kind h
    rw [Tm.ment_args a, Tm.ment_args b]
    cases a with
    | mk k n g l u s ks =>
      rw [Tm.sameB, h]
      have e : Tm.kind (.mk k n g l u s ks) = k := rfl
      have e' : Tm.args (.mk k n g l u s ks) = ks := rfl
      rw [e, e']
      by_cases h1 : k = 6 ∨ k = 8
      · have h2 := Tm.ment_kind' (t := .mk k n g l u s ks) h1
        have h3 := Tm.ment_kind (t := b) (by rw [← hk, h2]; exact h1)
        rw [if_pos h1, if_pos h1, if_pos (by rw [h3, ← hk, h2]; exact h1)]
      · rw [if_neg h1, if_neg h1]
        simp [Tm.samesB]
set_option maxRecDepth 100000 in
theorem Tm.samesB_no {ts us : List Tm} {j : Nat} {t u : Tm} (h : ts[j]? = some t) (h' : us[j]? = some u) (e : Tm.sameB t u = false) : Tm.samesB ts us = false := by
  induction ts generalizing us j with
  | nil => simp at h
  | cons a r ih =>
    cases us with
    | nil => rfl
    | cons b s =>
      rw [Tm.samesB]
      cases j with
      | zero => simp at h h'; rw [h, h', e]; rfl
      | succ j => simp at h h'; rw [ih h h']; simp
set_option maxRecDepth 100000 in
theorem Tm.samesB_yes {ts us : List Tm} (hl : ts.length = us.length) (h : ∀ (j : Nat) (t u : Tm), ts[j]? = some t → us[j]? = some u → Tm.sameB t u = true) : Tm.samesB ts us = true := by
  induction ts generalizing us with
  | nil => rfl
  | cons a r ih =>
    cases us with
    | nil => simp at hl
    | cons b s =>
      rw [Tm.samesB, h 0 a b rfl rfl, ih (by simpa using hl) (fun j t u h1 h2 => h (j + 1) t u (by simpa using h1) (by simpa using h2))]
      rfl

/-- Two variables that hold terms. -/
structure SmI (w : World) (r : TR) (t : Tm) (r' : TR) (t' : Tm) (W : World) : Prop where
  bx : Box7 W w.heap.size r
  ix : Box7 W (w.heap.size + 1) r'
  tv : TV W r t
  tw : TV W r' t'
  be : Below w.heap.size w W
section
variable {w : World} {r : TR} {t : Tm} {r' : TR} {t' : Tm} {W W' : World}
set_option maxRecDepth 100000 in
theorem SmI.below (h : SmI w r t r' t' W) (hb : Below W.heap.size W W') : SmI w r t r' t' W' :=
  ⟨h.bx.below hb, h.ix.below hb, h.tv.bel hb, h.tw.bel hb, h.be.trans (hb.mono h.be.size)⟩
set_option maxRecDepth 100000 in
theorem SmI.drew (h : SmI w r t r' t' W) : SmI w r t r' t' W.drew := h.below (Below.refl _ _).drew
set_option maxRecDepth 100000 in
theorem SmI.new (h : TV w r t) (h' : TV w r' t') : SmI w r t r' t' ((w.alloc (.cells #[.int .i64 r.k, .int .i64 r.n, .bool r.g, .slice r.A r.ln r.lc, .int .u64 r.u, .string r.s, .slice r.B r.m r.d] 28)).alloc (.cells #[.int .i64 r'.k, .int .i64 r'.n, .bool r'.g, .slice r'.A r'.ln r'.lc, .int .u64 r'.u, .string r'.s, .slice r'.B r'.m r'.d] 28)) := by
  have b1 := (Below.refl w.heap.size w).alloc (Nat.le_refl _) (.cells #[.int .i64 r.k, .int .i64 r.n, .bool r.g, .slice r.A r.ln r.lc, .int .u64 r.u, .string r.s, .slice r.B r.m r.d] 28)
  have b2 := b1.alloc (by simp) (.cells #[.int .i64 r'.k, .int .i64 r'.n, .bool r'.g, .slice r'.A r'.ln r'.lc, .int .u64 r'.u, .string r'.s, .slice r'.B r'.m r'.d] 28)
  have n := Box7.new (w.alloc (.cells #[.int .i64 r.k, .int .i64 r.n, .bool r.g, .slice r.A r.ln r.lc, .int .u64 r.u, .string r.s, .slice r.B r.m r.d] 28)) r'
  rw [World.size_alloc] at n
  exact ⟨(Box7.new w r).below ((Below.refl _ _).alloc (Nat.le_refl _) _), n, h.bel b2, h'.bel b2, b2⟩
end
set_option maxRecDepth 100000 in
theorem Box7.put' {w : World} {g g' : Nat} {r : TR} (h : Box7 w g r) (hn : g' ≠ g) (r' : TR) : Box7 (put7 w g' r') g r := by
  unfold Box7 at h ⊢
  simp [World.setCell, Array.getElem?_modify, h, hn]
set_option maxRecDepth 100000 in
/-- Both are written over. -/
theorem SmI.put {w : World} {r : TR} {t : Tm} {r' : TR} {t' : Tm} {W : World} (h : SmI w r t r' t' W) (R R' : TR) (T T' : Tm) (hT : TVS (· < w.heap.size) W R T) (hT' : TVS (· < w.heap.size) W R' T') :
    SmI w R T R' T' (put7 (put7 W w.heap.size R) (w.heap.size + 1) R') := by
  have k := ((Keeps.refl (· < w.heap.size) W).put7 (g := w.heap.size) (by simp) R).put7 (g := w.heap.size + 1) (by simp) R'
  exact ⟨(h.bx.put R).put' (by omega) R', (h.ix.put' (by omega) R).put R', (hT.keep k).tv, (hT'.keep k).tv, (h.be.put7 (Nat.le_refl _) R).put7 (by omega) R'⟩

set_option maxRecDepth 100000 in
/-- The seven facts of an element, one behind the other. -/
theorem seven {w : World} {b o : Nat} {r : TR} {P : Prop} (h : At7 w b o r) (p : P) : w.cell? ⟨b, o, none⟩ = some (.int .i64 r.k) ∧ w.cell? ⟨b, o + 1, none⟩ = some (.int .i64 r.n) ∧ w.cell? ⟨b, o + 2, none⟩ = some (.bool r.g) ∧ w.cell? ⟨b, o + 3, none⟩ = some (.slice r.A r.ln r.lc) ∧ w.cell? ⟨b, o + 4, none⟩ = some (.int .u64 r.u) ∧ w.cell? ⟨b, o + 5, none⟩ = some (.string r.s) ∧ w.cell? ⟨b, o + 6, none⟩ = some (.slice r.B r.m r.d) ∧ P :=
  ⟨h.c0, h.c1, h.c2, h.c3, h.c4, h.c5, h.c6, p⟩
set_option maxRecDepth 100000 in
theorem seven' {w : World} {b o : Nat} {r : TR} (h : At7 w b o r) : w.cell? ⟨b, o, none⟩ = some (.int .i64 r.k) ∧ w.cell? ⟨b, o + 1, none⟩ = some (.int .i64 r.n) ∧ w.cell? ⟨b, o + 2, none⟩ = some (.bool r.g) ∧ w.cell? ⟨b, o + 3, none⟩ = some (.slice r.A r.ln r.lc) ∧ w.cell? ⟨b, o + 4, none⟩ = some (.int .u64 r.u) ∧ w.cell? ⟨b, o + 5, none⟩ = some (.string r.s) ∧ w.cell? ⟨b, o + 6, none⟩ = some (.slice r.B r.m r.d) := ⟨h.c0, h.c1, h.c2, h.c3, h.c4, h.c5, h.c6⟩
set_option maxRecDepth 100000 in
theorem pairS {W v : World} {b o b' o' p q : Nat} {ra rb : TR} {X Y : Option Value} (hv : Below W.heap.size W v) (hp : p < W.heap.size) (hq : q < W.heap.size) (x : W.cell? ⟨p, 6, none⟩ = X) (y : W.cell? ⟨q, 6, none⟩ = Y)
    (h : At7 W b o ra) (hlt : b < W.heap.size) (h' : At7 W b' o' rb) (hlt' : b' < W.heap.size) :
    v.cell? ⟨p, 6, none⟩ = X ∧ v.cell? ⟨q, 6, none⟩ = Y ∧ v.cell? ⟨b, o, none⟩ = some (.int .i64 ra.k) ∧ v.cell? ⟨b, o + 1, none⟩ = some (.int .i64 ra.n) ∧ v.cell? ⟨b, o + 2, none⟩ = some (.bool ra.g) ∧ v.cell? ⟨b, o + 3, none⟩ = some (.slice ra.A ra.ln ra.lc) ∧ v.cell? ⟨b, o + 4, none⟩ = some (.int .u64 ra.u) ∧ v.cell? ⟨b, o + 5, none⟩ = some (.string ra.s) ∧ v.cell? ⟨b, o + 6, none⟩ = some (.slice ra.B ra.m ra.d) ∧ v.cell? ⟨b', o', none⟩ = some (.int .i64 rb.k) ∧ v.cell? ⟨b', o' + 1, none⟩ = some (.int .i64 rb.n) ∧ v.cell? ⟨b', o' + 2, none⟩ = some (.bool rb.g) ∧ v.cell? ⟨b', o' + 3, none⟩ = some (.slice rb.A rb.ln rb.lc) ∧ v.cell? ⟨b', o' + 4, none⟩ = some (.int .u64 rb.u) ∧ v.cell? ⟨b', o' + 5, none⟩ = some (.string rb.s) ∧ v.cell? ⟨b', o' + 6, none⟩ = some (.slice rb.B rb.m rb.d) :=
  ⟨(hv.cell (p := ⟨p, 6, none⟩) hp).trans x, (hv.cell (p := ⟨q, 6, none⟩) hq).trans y, seven (h.below hv hlt) (seven' (h'.below hv hlt'))⟩
end Go.Proofs.Ytmcfokeibecopaa

namespace Go.Proofs.Ytmcfokeibecopaa
open Go.RowKit

set_option maxRecDepth 100000 in
theorem Tm.alikeB_refl (t : Tm) : Tm.alikeB t t = true := by simp [Tm.alikeB]
set_option maxRecDepth 100000 in
theorem Tm.sameB_refl (t : Tm) : Tm.sameB t t = true := by
  induction t using Tm.ind with
  | h k n g l u s ks ih =>
    rw [Tm.sameB_eq, Tm.alikeB_refl, Bool.true_and]
    refine Tm.samesB_yes rfl (fun j t u h1 h2 => ?_)
    rw [h1] at h2
    cases h2
    refine ih t ?_
    have hm := List.mem_of_getElem? h1
    rw [Tm.ment_args] at hm
    split at hm
    · exact hm
    · cases hm
end Go.Proofs.Ytmcfokeibecopaa

namespace Go.Proofs.Ytmcfokeibecopaa
open Go.RowKit

set_option maxRecDepth 100000 in
theorem und_terms : Try.prog.underlying 26 = some (.slice 28) := by kernel_rfl
set_option maxRecDepth 100000 in
theorem info_term : (Try.prog.info? 28).map (fun i => (i.zero, i.size, i.bytes)) = some (some (.agg #[.int .i64 zeroR.k, .int .i64 zeroR.n, .bool zeroR.g, .slice zeroR.A zeroR.ln zeroR.lc, .int .u64 zeroR.u, .string zeroR.s, .slice zeroR.B zeroR.m zeroR.d]), 7, 96) := by kernel_rfl
set_option maxRecDepth 100000 in
theorem info_term' : ∃ i, Try.prog.info? 28 = some i ∧ i.zero = some (.agg #[.int .i64 zeroR.k, .int .i64 zeroR.n, .bool zeroR.g, .slice zeroR.A zeroR.ln zeroR.lc, .int .u64 zeroR.u, .string zeroR.s, .slice zeroR.B zeroR.m zeroR.d]) ∧ i.size = 7 ∧ i.bytes = 96 := by
  have h := info_term
  cases hi : Try.prog.info? 28 with
  | none => rw [hi] at h; simp at h
  | some i => rw [hi] at h; simp at h; exact ⟨i, rfl, h.1, h.2.1, h.2.2⟩

/-- The cells of so many records. -/
def rcells (V : Nat → TR) : Nat → List Value
  | 0 => []
  | m + 1 => rcells V m ++ (V m).cells
set_option maxRecDepth 100000 in
theorem rcells_len (V : Nat → TR) (m : Nat) : (rcells V m).length = m * 7 := by
  induction m with
  | zero => rfl
  | succ m ih => rw [rcells, List.length_append, ih]; simp [TR.cells]; omega
set_option maxRecDepth 100000 in
theorem rcells_get (V : Nat → TR) {m i j : Nat} (hi : i < m) (hj : j < 7) : (rcells V m)[i * 7 + j]? = (V i).cells[j]? := by
  induction m with
  | zero => omega
  | succ m ih =>
    rw [rcells]
    by_cases h : i < m
    · rw [List.getElem?_append_left (by rw [rcells_len]; omega), ih h]
    · have : i = m := by omega
      subst this
      rw [List.getElem?_append_right (by rw [rcells_len]; omega), rcells_len]
      congr 1
      omega
set_option maxRecDepth 100000 in
theorem rcells_congr {V V' : Nat → TR} {m : Nat} (h : ∀ i, i < m → V i = V' i) : rcells V m = rcells V' m := by
  induction m with
  | zero => rfl
  | succ m ih => rw [rcells, rcells, ih (fun i hi => h i (by omega)), h m (by omega)]
set_option maxRecDepth 100000 in
theorem cells_one {r : TR} : ∀ u ∈ r.cells, u.oneCell' = true := by
  intro u hu
  simp only [TR.cells, List.mem_cons, List.not_mem_nil, or_false] at hu
  rcases hu with rfl | rfl | rfl | rfl | rfl | rfl | rfl <;> rfl

set_option maxRecDepth 100000 in
theorem TVS.lt {S : Nat → Prop} {w : World} {r : TR} {t : Tm} (h : TVS S w r t) : TVS (fun b => S b ∧ b < w.heap.size) w r t := by
  induction h with
  | mk r l ks V hf hm hs on hk ih => exact .mk r l ks V hf hm hs ⟨fun h a e => ⟨on.lim h a e, hf.lim.blk h a e⟩, fun h a e => ⟨on.arg h a e, hs.blk h a e⟩⟩ ih

/-- The slice is a row of the call's own; its elements stand for the terms; what they lead to lies from block 'base' on, and not in the row itself. -/
structure Row7 (w : World) (base : Nat) (B : Option Addr) (m d : Nat) (ts : List Tm) : Prop where
  len : ts.length = m
  ex : ∃ V : Nat → TR, w.ownsRow base 28 7 (.slice B m d) m (rcells V m) ∧ ∀ i t, ts[i]? = some t → TVS (fun b => base ≤ b ∧ (Value.slice B m d).ownBlock ≠ some b) w (V i) t
set_option maxRecDepth 100000 in
theorem Row7.nil (w : World) (base : Nat) : Row7 w base none 0 0 [] := ⟨rfl, fun _ => default, World.ownsRow_nil _ _ _ _, fun i t e => by simp at e⟩
set_option maxRecDepth 100000 in
theorem Row7.below {w w' : World} {base m d : Nat} {B : Option Addr} {ts : List Tm} (h : Row7 w base B m d ts) (hb : Below w.heap.size w w') : Row7 w' base B m d ts := by
  obtain ⟨V, h1, h2⟩ := h.ex
  refine ⟨h.len, V, ⟨h1.1, ?_⟩, fun i t e => (h2 i t e).keep (hb.keeps _)⟩
  rcases h1.2 with h0 | ⟨g, cap, cur, hv, hbg, hg, rest⟩
  · exact .inl h0
  · exact .inr ⟨g, cap, cur, hv, hbg, (hb.block g (Array.getElem?_eq_some_iff.1 hg).1).trans hg, rest⟩
set_option maxRecDepth 100000 in
theorem Row7.md {w : World} {base m d : Nat} {B : Option Addr} {ts : List Tm} (h : Row7 w base B m d ts) : m ≤ d ∧ d ≤ maxLen := by
  obtain ⟨V, h1, h2⟩ := h.ex
  rcases h1.2 with ⟨h0, h0'⟩ | ⟨g, cap, cur, hv, hbg, hg, h1, h2, _⟩
  · cases h0; exact ⟨Nat.le_refl _, Nat.zero_le _⟩
  · cases hv; exact ⟨h1, h2⟩
set_option maxRecDepth 100000 in
theorem Row7.tvs {w : World} {base m d : Nat} {B : Option Addr} {ts : List Tm} (h : Row7 w base B m d ts) : TVSs (fun b => base ≤ b) w B m d ts := by
  have hmd := h.md
  obtain ⟨V, h1, h2⟩ := h.ex
  refine ⟨h.len, hmd.1, hmd.2, ?_, V, ?_, fun i t e => (h2 i t e).mono fun b hb => hb.1⟩
  · intro _ a e
    subst e
    exact (h1.lt a.block rfl).1
  · intro hm
    rcases h1.2 with ⟨h0, h0'⟩ | ⟨g, cap, cur, hv, hbg, hg, _⟩
    · omega
    · cases hv
      refine ⟨g, 0, rfl, (Array.getElem?_eq_some_iff.1 hg).1, fun i hi => At7.of fun j hj => ?_⟩
      rw [add_none, World.ownsRow.cellAt h1 _ (by omega), Nat.zero_add, rcells_get V hi hj]

set_option maxRecDepth 100000 in
/-- One more is put behind. -/
theorem Row7.push {w : World} {base m d : Nat} {B : Option Addr} {ts : List Tm} (h : Row7 w base B m d ts) {r : TR} {t : Tm} (ht : TVS (fun b => base ≤ b ∧ (Value.slice B m d).ownBlock ≠ some b) w r t)
    (a : Addr) (c : Nat) (ha : ∀ j u, r.cells[j]? = some u → w.cell? (a.add j) = some u) (hm : m ≤ 100000) (hbase : base ≤ w.heap.size) (ty : TypeId) :
    ∃ B' d' w', (Builtin.append_ #[26, 26] ty #[.slice B m d, .slice (some a) 1 c]).run Try.prog w = .ok (.slice B' (m + 1) d') w' ∧ Row7 w' base B' (m + 1) d' (ts ++ [t]) ∧ Below base w w' ∧
      ((Value.slice B' (m + 1) d').ownBlock = (Value.slice B m d).ownBlock ∨ (Value.slice B' (m + 1) d').ownBlock = some w.heap.size) := by
  obtain ⟨i, hi, hz, hs, hb⟩ := info_term'
  obtain ⟨V, h1, h2⟩ := h.ex
  obtain ⟨v', w', hrun, ho, hg, hn, hloc⟩ := run_append_own_at (P := Try.prog) w base 26 ty 28 i _ 7 96 und_terms hi hz hs hb rfl (by decide) (.slice B m d) m (rcells V m) h1 a 1 c r.cells (by simp [TR.cells]) ha cells_one (by unfold maxLen; omega) (by omega) hbase
  have hform : ∃ B' d', v' = .slice B' (m + 1) d' := by
    rcases ho.2 with ⟨_, h0⟩ | ⟨g, cap, cur, rfl, _⟩
    · omega
    · exact ⟨_, _, rfl⟩
  obtain ⟨B', d', rfl⟩ := hform
  have hrow : ∀ k, (Value.slice B m d).ownBlock = some k → base ≤ k := fun k hk => (World.ownsRow.lt h1 k hk).1
  have hkeep : Keeps (fun b => (base ≤ b ∧ (Value.slice B m d).ownBlock ≠ some b) ∧ b < w.heap.size) w w' := ⟨hg.size, fun b hb hl => hg.block b hl (fun e => hb.1.2 e.symm)⟩
  have hS : ∀ b, (base ≤ b ∧ (Value.slice B m d).ownBlock ≠ some b) ∧ b < w.heap.size → base ≤ b ∧ (Value.slice B' (m + 1) d').ownBlock ≠ some b := fun b hb => ⟨hb.1.1, by
    rcases hloc with e | e
    · rw [e]; exact hb.1.2
    · rw [e]; intro e'; cases e'; exact absurd hb.2 (by omega)⟩
  refine ⟨B', d', w', hrun, ⟨by rw [List.length_append, h.len]; rfl, fun i => if i < m then V i else r, ?_, ?_⟩, (Below.refl base w).grown hg hbase hrow, hloc⟩
  · have e : rcells (fun i => if i < m then V i else r) (m + 1) = rcells V m ++ r.cells := by
      rw [rcells, if_neg (by omega), rcells_congr (V' := V) (fun i hi => by simp [hi])]
    rw [e]
    exact ho
  · intro i x e
    by_cases hlt : i < m
    · rw [List.getElem?_append_left (by rw [h.len]; exact hlt)] at e
      simp only [hlt, if_true]
      exact ((h2 i x e).lt.keep hkeep).mono hS
    · rw [List.getElem?_append_right (by rw [h.len]; omega), h.len] at e
      have hz : i - m = 0 := by
        rcases Nat.eq_zero_or_pos (i - m) with hz | hz
        · exact hz
        · rw [List.getElem?_eq_none (by simp; omega)] at e; cases e
      rw [hz] at e
      simp at e
      subst e
      simp only [hlt, if_false]
      exact (ht.lt.keep hkeep).mono hS
end Go.Proofs.Ytmcfokeibecopaa

namespace Go.Proofs.Ytmcfokeibecopaa
open Go.RowKit

/-- What a call leaves that copies a term, or terms. -/
def CpT (w : World) (t : Tm) (e : Ending) (w' : World) : Prop := ∃ R : TR, e = .returned (.agg #[.int .i64 R.k, .int .i64 R.n, .bool R.g, .slice R.A R.ln R.lc, .int .u64 R.u, .string R.s, .slice R.B R.m R.d]) ∧ TVS (fun b => w.heap.size ≤ b) w' R t ∧ Below w.heap.size w w'
def CpTs (w : World) (ts : List Tm) (e : Ending) (w' : World) : Prop := ∃ B m d, e = .returned (.slice B m d) ∧ TVSs (fun b => w.heap.size ≤ b) w' B m d ts ∧ Below w.heap.size w w'

set_option maxRecDepth 100000 in
theorem Tm.size_kid {t x : Tm} (h : x ∈ t.args) : x.size ≤ t.size := by
  have : ∀ ks : List Tm, x ∈ ks → x.size ≤ Tm.size.sizes ks := by
    intro ks
    induction ks with
    | nil => intro h; cases h
    | cons a r ih =>
      intro h
      rw [Tm.size.sizes]
      rcases List.mem_cons.1 h with rfl | h
      · omega
      · have := ih h; omega
  cases t with
  | mk k n g l u s ks => have := this ks h; rw [Tm.size]; omega
set_option maxRecDepth 100000 in
theorem Tm.size_args (t : Tm) : t.args.length ≤ t.size := by
  cases t with
  | mk k n g l u s ks => have := Tm.sizes_len ks; rw [Tm.size]; exact Nat.le_trans this (by omega)

set_option maxRecDepth 100000 in
/-- The limbs, or the arguments, of a variable are written over. -/
theorem Box7.set3 {w : World} {g : Nat} {r : TR} (h : Box7 w g r) (A : Option Addr) (n c : Nat) : Box7 (w.setCell ⟨g, 3, none⟩ (.slice A n c)) g ⟨r.k, r.n, r.g, A, n, c, r.u, r.s, r.B, r.m, r.d⟩ := by
  unfold Box7 at h ⊢
  simp [World.setCell, Array.getElem?_modify, h]
set_option maxRecDepth 100000 in
theorem Box7.set6 {w : World} {g : Nat} {r : TR} (h : Box7 w g r) (B : Option Addr) (n c : Nat) : Box7 (w.setCell ⟨g, 6, none⟩ (.slice B n c)) g ⟨r.k, r.n, r.g, r.A, r.ln, r.lc, r.u, r.s, B, n, c⟩ := by
  unfold Box7 at h ⊢
  simp [World.setCell, Array.getElem?_modify, h]
set_option maxRecDepth 100000 in
theorem Box7.setO {w : World} {g g' : Nat} {r : TR} (h : Box7 w g r) (hn : g' ≠ g) (i : Nat) (v : Value) : Box7 (w.setCell ⟨g', i, none⟩ v) g r := by
  unfold Box7 at h ⊢
  simp [World.setCell, Array.getElem?_modify, h, hn]

end Go.Proofs.Ytmcfokeibecopaa
