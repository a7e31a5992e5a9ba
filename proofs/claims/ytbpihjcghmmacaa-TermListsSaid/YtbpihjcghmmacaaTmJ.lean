/-
  PACKAGE term: alike (slices.Equal of limbs).
-/
import Derived.Test.YtbpihjcghmmacaaTmI
import Derived.Test.YtbpihjcghmmacaaLeafC
namespace Go.Proofs.Ytbpihjcghmmacaa
open Go.RowKit

set_option maxHeartbeats 800000 in
theorem equal_any (w : World) (A B : Option Addr) (n c m d : Nat) (l k : List Nat) (h : Lim w A n c l) (hn : c ≤ maxLen) (h' : Lim w B m d k) (_hm : d ≤ maxLen) :
    Calls Try.prog 65 #[.slice A n c, .slice B m d] w fun e w' => e = .returned (.bool (decide (l = k))) ∧ ∃ q, w' = w.drewN q := by
  unfold maxLen at hn _hm
  have hnc := h.2.1
  have hmd := h'.2.1
  have hll := Lib.hid h.1
  have hkk := Lib.hid h'.1
  by_cases hnm : n = m
  · subst hnm
    go_enter Try.func65, Try.ntmps65
    go_wp2
    go_loopw [13] (fun i w' => ∃ j : Nat, j ≤ n ∧ i = .int .i64 (j : Int) ∧ (∃ q, w' = w.drewN q) ∧ Hid (∀ t, t < j → Lm.lg l t = Lm.lg k t)) (fun i _ => n - (intOf i).toNat)
    case atStart => exact ⟨0, Nat.zero_le _, rfl, ⟨0, rfl⟩, fun t h1 => by omega⟩
    case round =>
      obtain ⟨j, hj, rfl, ⟨q, rfl⟩, hz⟩ := hrel
      by_cases h0 : j < n
      · obtain ⟨b, o, rfl, hlt, hcell⟩ := h.2.2.2 (by omega)
        obtain ⟨b', o', rfl, hlt', hcell'⟩ := h'.2.2.2 (by omega)
        have hg := hcell j h0
        have hg' := hcell' j h0
        have hpos2 : (j : Int) < (n : Int) := by omega
        clear hcell hcell'
        by_cases hx : Lm.lg l j = Lm.lg k j
        · rw [← hx] at hg'
          have hX := Lib.hid hx
          clear hx
          go_wp2
          go_quiet (fail)
          go_wp2
          go_roundw
          case rel => exact ⟨j + 1, by omega, by go_num, ⟨_, rfl⟩, fun t h1 => by
            by_cases e : t = j
            · rw [e]; exact hX.out
            · exact hz.out t (by omega)⟩
          case measure => simp [intOf]; omega
        · have hne : ((((Lm.lg l j : Nat) : Int) != ((Lm.lg k j : Nat) : Int))) = true := by rw [bne_iff_ne]; omega
          have fin := Lib.hid (show decide (l = k) = false by rw [decide_eq_false_iff_not]; rintro rfl; exact hx rfl)
          go_wp2
          go_quiet (fail)
          go_wp2
          go_ret
          rw [fin.out]
          exact ⟨rfl, _, by rw [World.drewN_drewN]⟩
      · have e := Lm.eq_of_lg (hll.out.trans hkk.out.symm) (fun t ht => hz.out t (by have := hll.out; omega))
        have fin := Lib.hid (show decide (l = k) = true by rw [decide_eq_true_iff]; exact e)
        clear e
        go_wp2
        go_ret
        rw [fin.out]
        exact ⟨rfl, q, rfl⟩
  · have hne : (((n : Nat) : Int) != ((m : Nat) : Int)) = true := by rw [bne_iff_ne]; omega
    have fin := Lib.hid (show decide (l = k) = false by rw [decide_eq_false_iff_not]; rintro rfl; exact hnm (by rw [← hll.out, ← hkk.out]))
    go_enter Try.func65, Try.ntmps65
    go_wp2
    go_ret
    rw [fin.out]
    exact ⟨rfl, 0, rfl⟩

/-- Are two terms the same, but for their arguments, of which only how many they are is held? -/
def Tm.alikeB (a b : Tm) : Bool := (((((a.kind == b.kind) && (a.num == b.num)) && (a.bits == b.bits)) && decide (a.bytes = b.bytes)) && (a.neg == b.neg)) && (decide (a.mag = b.mag) && (a.args.length == b.args.length))

theorem toList_ne {s s' : ByteArray} (h : ¬ s = s') : ¬ s.toList = s'.toList := fun e => h (by
  apply ByteArray.ext
  apply Array.ext'
  rw [← ByteArray.toList_eq, ← ByteArray.toList_eq]
  exact e)
set_option maxHeartbeats 2000000 in
theorem alike_raw (w : World) (k n : Int) (g : Bool) (A : Option Addr) (ln lc : Nat) (u : Int) (s : ByteArray) (B : Option Addr) (m d : Nat)
    (k' n' : Int) (g' : Bool) (A' : Option Addr) (ln' lc' : Nat) (u' : Int) (s' : ByteArray) (B' : Option Addr) (m' d' : Nat) (l l' : List Nat) (hl : Lim w A ln lc l) (hc : lc ≤ maxLen) (hl' : Lim w A' ln' lc' l') (hc' : lc' ≤ maxLen)
    (R : Bool) (HR : Hid (R = ((((((k == k') && (n == n')) && (u == u')) && decide (s = s')) && (g == g')) && (decide (l = l') && (m == m'))))) :
    Calls Try.prog 55 #[.agg #[.int .i64 k, .int .i64 n, .bool g, .slice A ln lc, .int .u64 u, .string s, .slice B m d], .agg #[.int .i64 k', .int .i64 n', .bool g', .slice A' ln' lc', .int .u64 u', .string s', .slice B' m' d']] w fun e w' => e = .returned (.bool R) ∧ Below w.heap.size w w' := by
  have hb0 := ((Below.refl w.heap.size w).alloc (Nat.le_refl _) (.cells #[.int .i64 k, .int .i64 n, .bool g, .slice A ln lc, .int .u64 u, .string s, .slice B m d] 28)).alloc (by simp) (.cells #[.int .i64 k', .int .i64 n', .bool g', .slice A' ln' lc', .int .u64 u', .string s', .slice B' m' d'] 28)
  by_cases ne : k = k'
  case neg =>
    have hfin := Lib.hid (show R = false by rw [HR.out, show (k == k') = false by rw [beq_eq_false_iff_ne]; exact ne]; simp)
    have ne' : (k == k') = false := by rw [beq_eq_false_iff_ne]; exact ne
    go_enter Try.func55, Try.ntmps55
    go_wp2
    go_ret
    exact ⟨by rw [hfin.out]; rfl, hb0⟩
  subst ne
  by_cases ne : n = n'
  case neg =>
    have hfin := Lib.hid (show R = false by rw [HR.out, show (n == n') = false by rw [beq_eq_false_iff_ne]; exact ne]; simp)
    have ne' : (n == n') = false := by rw [beq_eq_false_iff_ne]; exact ne
    go_enter Try.func55, Try.ntmps55
    go_wp2
    go_ret
    exact ⟨by rw [hfin.out]; rfl, hb0⟩
  subst ne
  by_cases ne : u = u'
  case neg =>
    have hfin := Lib.hid (show R = false by rw [HR.out, show (u == u') = false by rw [beq_eq_false_iff_ne]; exact ne]; simp)
    have ne' : (u == u') = false := by rw [beq_eq_false_iff_ne]; exact ne
    go_enter Try.func55, Try.ntmps55
    go_wp2
    go_ret
    exact ⟨by rw [hfin.out]; rfl, hb0⟩
  subst ne
  by_cases ne : s = s'
  case neg =>
    have hfin := Lib.hid (show R = false by rw [HR.out, decide_eq_false ne]; simp)
    have ne' := toList_ne ne
    go_enter Try.func55, Try.ntmps55
    go_wp2
    go_ret
    exact ⟨by rw [hfin.out]; rfl, hb0⟩
  subst ne
  by_cases ne : g = g'
  case neg =>
    have hfin := Lib.hid (show R = false by rw [HR.out, show (g == g') = false by rw [beq_eq_false_iff_ne]; exact ne]; simp)
    go_enter Try.func55, Try.ntmps55
    go_wp2
    go_ret
    exact ⟨by rw [hfin.out]; rfl, hb0⟩
  subst ne
  have hx := (Box7.new w (TR.mk k n g A ln lc u s B m d)).below ((Below.refl _ _).alloc (Nat.le_refl _) (.cells #[.int .i64 (TR.mk k n g A' ln' lc' u s B' m' d').k, .int .i64 (TR.mk k n g A' ln' lc' u s B' m' d').n, .bool (TR.mk k n g A' ln' lc' u s B' m' d').g, .slice (TR.mk k n g A' ln' lc' u s B' m' d').A (TR.mk k n g A' ln' lc' u s B' m' d').ln (TR.mk k n g A' ln' lc' u s B' m' d').lc, .int .u64 (TR.mk k n g A' ln' lc' u s B' m' d').u, .string (TR.mk k n g A' ln' lc' u s B' m' d').s, .slice (TR.mk k n g A' ln' lc' u s B' m' d').B (TR.mk k n g A' ln' lc' u s B' m' d').m (TR.mk k n g A' ln' lc' u s B' m' d').d] 28))
  have hy := Box7.new (w.alloc (.cells #[.int .i64 (TR.mk k n g A ln lc u s B m d).k, .int .i64 (TR.mk k n g A ln lc u s B m d).n, .bool (TR.mk k n g A ln lc u s B m d).g, .slice (TR.mk k n g A ln lc u s B m d).A (TR.mk k n g A ln lc u s B m d).ln (TR.mk k n g A ln lc u s B m d).lc, .int .u64 (TR.mk k n g A ln lc u s B m d).u, .string (TR.mk k n g A ln lc u s B m d).s, .slice (TR.mk k n g A ln lc u s B m d).B (TR.mk k n g A ln lc u s B m d).m (TR.mk k n g A ln lc u s B m d).d] 28)) (TR.mk k n g A' ln' lc' u s B' m' d')
  rw [World.size_alloc] at hy
  have hl0 := hl.below hb0
  have hl0' := hl'.below hb0
  have hcase := Lib.hid (show R = (decide (l = l') && (m == m')) by rw [HR.out]; simp)
  clear HR
  go_enter Try.func55, Try.ntmps55
  go_wp2_with fail
  generalize (w.alloc (.cells #[.int .i64 (TR.mk k n g A ln lc u s B m d).k, .int .i64 (TR.mk k n g A ln lc u s B m d).n, .bool (TR.mk k n g A ln lc u s B m d).g, .slice (TR.mk k n g A ln lc u s B m d).A (TR.mk k n g A ln lc u s B m d).ln (TR.mk k n g A ln lc u s B m d).lc, .int .u64 (TR.mk k n g A ln lc u s B m d).u, .string (TR.mk k n g A ln lc u s B m d).s, .slice (TR.mk k n g A ln lc u s B m d).B (TR.mk k n g A ln lc u s B m d).m (TR.mk k n g A ln lc u s B m d).d] 28)).alloc (.cells #[.int .i64 (TR.mk k n g A' ln' lc' u s B' m' d').k, .int .i64 (TR.mk k n g A' ln' lc' u s B' m' d').n, .bool (TR.mk k n g A' ln' lc' u s B' m' d').g, .slice (TR.mk k n g A' ln' lc' u s B' m' d').A (TR.mk k n g A' ln' lc' u s B' m' d').ln (TR.mk k n g A' ln' lc' u s B' m' d').lc, .int .u64 (TR.mk k n g A' ln' lc' u s B' m' d').u, .string (TR.mk k n g A' ln' lc' u s B' m' d').s, .slice (TR.mk k n g A' ln' lc' u s B' m' d').B (TR.mk k n g A' ln' lc' u s B' m' d').m (TR.mk k n g A' ln' lc' u s B' m' d').d] 28) = W at *
  refine (equal_any W A A' ln lc ln' lc' l l' hl0 hc hl0' hc').mono ?_
  rintro e w1 ⟨rfl, q, rfl⟩
  have y6 : (W.drewN q).cell? ⟨w.heap.size, 6, none⟩ = some (.slice B m d) := hx.at.c6
  have x6 : (W.drewN q).cell? ⟨w.heap.size + 1, 6, none⟩ = some (.slice B' m' d') := hy.at.c6
  have hb1 : Below w.heap.size w (W.drewN q) := hb0.drewN' q
  generalize W.drewN q = W1 at *
  cases e5 : decide (l = l') with
  | false =>
    have hfin := Lib.hid (show R = false by rw [hcase.out, e5]; rfl)
    go_wp2
    go_ret
    exact ⟨by rw [hfin.out]; rfl, hb1⟩
  | true =>
    have hfin := Lib.hid (show R = ((m : Int) == (m' : Int)) by
      rw [hcase.out, e5, Bool.true_and]
      by_cases e : m = m'
      · subst e; simp
      · rw [beq_eq_false_iff_ne.2 e, beq_eq_false_iff_ne.2 (by omega)])
    go_wp2
    go_ret
    exact ⟨by rw [hfin.out]; rfl, hb1⟩

theorem alike_any (w : World) (r : TR) (t : Tm) (h : TV w r t) (r' : TR) (t' : Tm) (h' : TV w r' t') :
    Calls Try.prog 55 #[.agg #[.int .i64 r.k, .int .i64 r.n, .bool r.g, .slice r.A r.ln r.lc, .int .u64 r.u, .string r.s, .slice r.B r.m r.d], .agg #[.int .i64 r'.k, .int .i64 r'.n, .bool r'.g, .slice r'.A r'.ln r'.lc, .int .u64 r'.u, .string r'.s, .slice r'.B r'.m r'.d]] w fun e w' => e = .returned (.bool (Tm.alikeB t t')) ∧ Below w.heap.size w w' :=
  alike_raw w r.k r.n r.g r.A r.ln r.lc r.u r.s r.B r.m r.d r'.k r'.n r'.g r'.A r'.ln r'.lc r'.u r'.s r'.B r'.m r'.d t.mag t'.mag h.flat.lim h.flat.cap h'.flat.lim h'.flat.cap _ (Lib.hid (by
    unfold Tm.alikeB
    rw [h.kind, h.num, h.bits, h.bytes, h.neg, h'.kind, h'.num, h'.bits, h'.bytes, h'.neg, h.len, h'.len]))
end Go.Proofs.Ytbpihjcghmmacaa
