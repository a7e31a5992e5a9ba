/-
  CONTRACTS OF THE LAWS' OWN FUNCTIONS ON INTEGERS (beehiveref1): Mul.
-/
import Derived.Test.YtlmojomnebjhaaaRefD
namespace Go.Proofs.Ytlmojomnebjhaaa
open Go.RowKit

set_option maxHeartbeats 1000000 in
theorem refMul_no1 (w : World) (g g' : Bool) (A B : Option Addr) (n c m d : Nat) (l k : List Nat) (h : Raw w A n c l) (h' : Raw w B m d k) (hm : mayB g l = false) : Calls Try.prog 16 #[.agg #[.bool g, .slice A n c], .agg #[.bool g', .slice B m d]] w (NumPost w 0 false) := by
  go_enter Try.func16, Try.ntmps16
  go_wp2_with fail
  have hb0 := (((Below.refl w.heap.size w).alloc (Nat.le_refl _) (.cells #[.bool g, .slice A n c] 24)).alloc (by simp) (.cells #[.bool g', .slice B m d] 24)).alloc (by simp; omega) (.cells #[.bool false, .slice none 0 0] 24)
  have hxa := ((Box.new w (.bool g) (.slice A n c)).alloc (.cells #[.bool g', .slice B m d] 24)).alloc (.cells #[.bool false, .slice none 0 0] 24)
  have hxb := (Box.new (w.alloc (.cells #[.bool g, .slice A n c] 24)) (.bool g') (.slice B m d)).alloc (.cells #[.bool false, .slice none 0 0] 24)
  have hxr := Box.new ((w.alloc (.cells #[.bool g, .slice A n c] 24)).alloc (.cells #[.bool g', .slice B m d] 24)) (.bool false) (.slice none 0 0)
  simp only [World.size_alloc] at hxb hxr
  have hAA := h.below hb0
  have hBB := h'.below hb0
  generalize ((w.alloc (.cells #[.bool g, .slice A n c] 24)).alloc (.cells #[.bool g', .slice B m d] 24)).alloc (.cells #[.bool false, .slice none 0 0] 24) = W at *
  have x1 := hxa.c0
  have x2 := hxa.c1
  refine (refMay_b W g A n c l hAA).mono ?_
  rintro e w1 ⟨rfl, hb1⟩
  have ya := hxa.below' hb1
  have yb := hxb.below' hb1
  have yr := hxr.below' hb1
  replace hAA := hAA.below hb1
  replace hBB := hBB.below hb1
  replace hb0 := hb0.trans (hb1.mono hb0.size)
  clear hxa hxb hxr x1 x2 hb1
  have x1 := ya.c0
  have x2 := ya.c1
  have x3 := yb.c0
  have x4 := yb.c1
  have z0 := yr.c0
  have z1 := yr.c1
  have z2 := yr.f0
  have z3 := yr.f1
  go_wp2
  obtain ⟨hB, hNV, hbl⟩ := close_num (s := false) (A := none) (n := 0) (c := 0) (z := 0) (base := w.heap.size) (base' := w.heap.size) yr (by omega) hb0 (Lib.hid rfl) (by rw [show (0 : Int).natAbs = 0 from rfl, Lm.digits_zero]; exact Own.nil _ _) (Nat.le_refl _)
  generalize (w1.setCell ⟨w.heap.size + 1 + 1, 0, none⟩ (.bool false)).setCell ⟨w.heap.size + 1 + 1, 1, none⟩ (.slice none 0 0) = W2 at *
  have hy0 := hB.c0
  have hy1 := hB.c1
  exact bodyPost_ret (v := .tuple #[.agg #[.bool false, .slice none 0 0], .bool false]) (by simp [results, Try.results16, go_sem, hy0, hy1]) rfl ⟨_, rfl, hNV, hbl⟩

set_option maxHeartbeats 1000000 in
theorem refMul_no2 (w : World) (g g' : Bool) (A B : Option Addr) (n c m d : Nat) (l k : List Nat) (h : Raw w A n c l) (h' : Raw w B m d k) (hm : mayB g l = true) (hm' : mayB g' k = false) : Calls Try.prog 16 #[.agg #[.bool g, .slice A n c], .agg #[.bool g', .slice B m d]] w (NumPost w 0 false) := by
  go_enter Try.func16, Try.ntmps16
  go_wp2_with fail
  have hb0 := (((Below.refl w.heap.size w).alloc (Nat.le_refl _) (.cells #[.bool g, .slice A n c] 24)).alloc (by simp) (.cells #[.bool g', .slice B m d] 24)).alloc (by simp; omega) (.cells #[.bool false, .slice none 0 0] 24)
  have hxa := ((Box.new w (.bool g) (.slice A n c)).alloc (.cells #[.bool g', .slice B m d] 24)).alloc (.cells #[.bool false, .slice none 0 0] 24)
  have hxb := (Box.new (w.alloc (.cells #[.bool g, .slice A n c] 24)) (.bool g') (.slice B m d)).alloc (.cells #[.bool false, .slice none 0 0] 24)
  have hxr := Box.new ((w.alloc (.cells #[.bool g, .slice A n c] 24)).alloc (.cells #[.bool g', .slice B m d] 24)) (.bool false) (.slice none 0 0)
  simp only [World.size_alloc] at hxb hxr
  have hAA := h.below hb0
  have hBB := h'.below hb0
  generalize ((w.alloc (.cells #[.bool g, .slice A n c] 24)).alloc (.cells #[.bool g', .slice B m d] 24)).alloc (.cells #[.bool false, .slice none 0 0] 24) = W at *
  have x1 := hxa.c0
  have x2 := hxa.c1
  refine (refMay_b W g A n c l hAA).mono ?_
  rintro e w1 ⟨rfl, hb1⟩
  have ya := hxa.below' hb1
  have yb := hxb.below' hb1
  have yr := hxr.below' hb1
  replace hAA := hAA.below hb1
  replace hBB := hBB.below hb1
  replace hb0 := hb0.trans (hb1.mono hb0.size)
  clear hxa hxb hxr x1 x2 hb1
  have x1 := ya.c0
  have x2 := ya.c1
  have x3 := yb.c0
  have x4 := yb.c1
  go_wp2_with fail
  refine (refMay_b w1 g' B m d k hBB).mono ?_
  rintro e w2 ⟨rfl, hb2⟩
  have za := ya.below' hb2
  have zb := yb.below' hb2
  have zr := yr.below' hb2
  replace hAA := hAA.below hb2
  replace hBB := hBB.below hb2
  replace hb0 := hb0.trans (hb2.mono hb0.size)
  clear ya yb yr x1 x2 x3 x4 hb2
  have x1 := za.c0
  have x2 := za.c1
  have x3 := zb.c0
  have x4 := zb.c1
  have z0 := zr.c0
  have z1 := zr.c1
  have z2 := zr.f0
  have z3 := zr.f1
  go_wp2
  obtain ⟨hB, hNV, hbl⟩ := close_num (s := false) (A := none) (n := 0) (c := 0) (z := 0) (base := w.heap.size) (base' := w.heap.size) zr (by omega) hb0 (Lib.hid rfl) (by rw [show (0 : Int).natAbs = 0 from rfl, Lm.digits_zero]; exact Own.nil _ _) (Nat.le_refl _)
  generalize (w2.setCell ⟨w.heap.size + 1 + 1, 0, none⟩ (.bool false)).setCell ⟨w.heap.size + 1 + 1, 1, none⟩ (.slice none 0 0) = W2 at *
  have hy0 := hB.c0
  have hy1 := hB.c1
  exact bodyPost_ret (v := .tuple #[.agg #[.bool false, .slice none 0 0], .bool false]) (by simp [results, Try.results16, go_sem, hy0, hy1]) rfl ⟨_, rfl, hNV, hbl⟩

theorem set_drewN (w : World) (c : Array Value) (t : TypeId) (q i : Nat) (v : Value) : ((w.alloc (.cells c t)).drewN q).setCell ⟨w.heap.size, i, none⟩ v = (w.alloc (.cells (c.setIfInBounds i v) t)).drewN q := by
  show ((w.alloc (.cells c t)).setCell ⟨w.heap.size, i, none⟩ v).drewN q = _
  rw [World.setCell_alloc_at _ _ _ _ _ rfl]
theorem mul_wrap2 (x a b z : Nat) (h : x + (a * b + z) < 18446744073709551616) : IntKind.u64.wrap (IntKind.u64.wrap (IntKind.u64.wrap ((a : Int) * b) + z) + x) = ((x + (a * b + z) : Nat) : Int) := by
  rw [← Int.natCast_mul]
  generalize a * b = p at *
  rw [IntKind.wrap_u64, IntKind.wrap_u64, IntKind.wrap_u64]
  omega
theorem val_take_zeros {o : List Nat} {q : Nat} (h : ∀ p, q ≤ p → Lm.lg o p = 0) : Lm.val (o.take q) = Lm.val o := by
  have hd : ∀ m : List Nat, (∀ j, Lm.lg m j = 0) → Lm.val m = 0 := by
    intro m
    induction m with
    | nil => intro _; rfl
    | cons x m ih =>
      intro hm
      have hx : x = 0 := hm 0
      have hr := ih (fun j => by have := hm (j + 1); rwa [Lm.lg_succ] at this)
      simp only [Lm.val, hr, hx]
  conv => rhs; rw [← List.take_append_drop q o]
  rw [Lm.val_append, hd (o.drop q) (fun j => by
    have := h (q + j) (by omega)
    simp only [Lm.lg, List.getD_eq_getElem?_getD, List.getElem?_drop] at this ⊢
    exact this)]
  simp
theorem refmul_outer {t o l k : List Nat} {i m x : Nat} (hsl : Lm.Small l) (hsk : Lm.Small k) (hk : k.length = m)
    (hin : Lm.val (t.take (i + (m + 1))) + 4294967296 ^ (i + (m + 1)) * x = Lm.val (o.take (i + (m + 1))) + 4294967296 ^ i * (Lm.lg l i * Lm.val (k.take (m + 1))))
    (hold : ∀ p, i + (m + 1) ≤ p → Lm.lg t p = Lm.lg o p) (hinv : Lm.val o = Lm.val (l.take i) * Lm.val k) (hoz : ∀ p, i + m ≤ p → Lm.lg o p = 0) :
    Lm.val t = Lm.val (l.take (i + 1)) * Lm.val k ∧ ∀ p, i + 1 + m ≤ p → Lm.lg t p = 0 := by
  have hz : ∀ p, i + (m + 1) ≤ p → Lm.lg t p = 0 := fun p hp => by rw [hold p hp]; exact hoz p (by omega)
  refine ⟨?_, fun p hp => hz p (by omega)⟩
  rw [val_take_zeros hz, val_take_zeros (fun p hp => hoz p (by omega)), List.take_of_length_le (l := k) (by omega), hinv] at hin
  have hV : Lm.val (l.take i) * Lm.val k + 4294967296 ^ i * (Lm.lg l i * Lm.val k) = Lm.val (l.take (i + 1)) * Lm.val k := by
    rw [Lm.val_take_succ, Nat.add_mul, Nat.mul_assoc]
  rw [hV] at hin
  have b1 : Lm.val (l.take (i + 1)) < 4294967296 ^ (i + 1) := by
    refine Nat.lt_of_lt_of_le (Lm.val_lt (Lm.small_take hsl _)) (Nat.pow_le_pow_right (by decide) ?_)
    rw [List.length_take]; omega
  have b2 : Lm.val k < 4294967296 ^ m := by have := Lm.val_lt hsk; rwa [hk] at this
  have b3 : Lm.val (l.take (i + 1)) * Lm.val k < 4294967296 ^ (i + (m + 1)) := by
    rw [show i + (m + 1) = (i + 1) + m from by omega, Nat.pow_add]
    exact Nat.mul_lt_mul'' b1 b2
  generalize 4294967296 ^ (i + (m + 1)) = Q at *
  generalize Lm.val (l.take (i + 1)) * Lm.val k = V at *
  rcases Nat.eq_zero_or_pos x with h0 | h0
  · subst h0
    rw [Nat.mul_zero] at hin
    omega
  · have h4 : Q * 1 ≤ Q * x := Nat.mul_le_mul_left _ h0
    generalize Q * x = q at *
    omega
theorem lg_zeros (n p : Nat) : Lm.lg (List.replicate n 0) p = 0 := by
  simp only [Lm.lg, List.getD_eq_getElem?_getD, List.getElem?_replicate]
  split <;> rfl

set_option maxHeartbeats 4000000 in
theorem refMul_yes (w : World) (g g' : Bool) (A B : Option Addr) (n c m d : Nat) (l k : List Nat) (h : Raw w A n c l) (h' : Raw w B m d k) (hm : mayB g l = true) (hm' : mayB g' k = true) :
    Calls Try.prog 16 #[.agg #[.bool g, .slice A n c], .agg #[.bool g', .slice B m d]] w (NumPost w (clip (sgn g (Lm.val l) * sgn g' (Lm.val k))) (fits (sgn g (Lm.val l) * sgn g' (Lm.val k)))) := by
  have hn8 : n ≤ 8 := by have := mayB_len hm; rw [h.1.1] at this; exact this
  have hm8 : m ≤ 8 := by have := mayB_len hm'; rw [h'.1.1] at this; exact this
  have hll := Lib.hid h.1.1
  have hkk := Lib.hid h'.1.1
  have hsl := h.1.2.2.1
  have hsk := h'.1.2.2.1
  have hmk := fun w => make_limbs (n + m + 1) (by omega) w
  simp only [Int.natCast_add, Int.natCast_one] at hmk
  go_enter Try.func16, Try.ntmps16
  go_wp2_with fail
  have hb0 := (((Below.refl w.heap.size w).alloc (Nat.le_refl _) (.cells #[.bool g, .slice A n c] 24)).alloc (by simp) (.cells #[.bool g', .slice B m d] 24)).alloc (by simp; omega) (.cells #[.bool false, .slice none 0 0] 24)
  have hxa := ((Box.new w (.bool g) (.slice A n c)).alloc (.cells #[.bool g', .slice B m d] 24)).alloc (.cells #[.bool false, .slice none 0 0] 24)
  have hxb := (Box.new (w.alloc (.cells #[.bool g, .slice A n c] 24)) (.bool g') (.slice B m d)).alloc (.cells #[.bool false, .slice none 0 0] 24)
  have hxr := Box.new ((w.alloc (.cells #[.bool g, .slice A n c] 24)).alloc (.cells #[.bool g', .slice B m d] 24)) (.bool false) (.slice none 0 0)
  simp only [World.size_alloc] at hxb hxr
  have hAA := h.below hb0
  have hBB := h'.below hb0
  generalize ((w.alloc (.cells #[.bool g, .slice A n c] 24)).alloc (.cells #[.bool g', .slice B m d] 24)).alloc (.cells #[.bool false, .slice none 0 0] 24) = W at *
  have x1 := hxa.c0
  have x2 := hxa.c1
  refine (refMay_b W g A n c l hAA).mono ?_
  rintro e w1 ⟨rfl, hb1⟩
  have ya := hxa.below' hb1
  have yb := hxb.below' hb1
  have yr := hxr.below' hb1
  replace hAA := hAA.below hb1
  replace hBB := hBB.below hb1
  replace hb0 := hb0.trans (hb1.mono hb0.size)
  clear hxa hxb hxr x1 x2 hb1
  have x1 := ya.c0
  have x2 := ya.c1
  have x3 := yb.c0
  have x4 := yb.c1
  go_wp2_with fail
  refine (refMay_b w1 g' B m d k hBB).mono ?_
  rintro e w2 ⟨rfl, hb2⟩
  have za := ya.below' hb2
  have zb := yb.below' hb2
  have zr := yr.below' hb2
  replace hAA := hAA.below hb2
  replace hBB := hBB.below hb2
  replace hb0 := hb0.trans (hb2.mono hb0.size)
  clear ya yb yr x1 x2 x3 x4 hb2
  have x1 := za.c0
  have x2 := za.c1
  have x3 := zb.c0
  have x4 := zb.c1
  have l1 := za.lt
  have l2 := zb.lt
  have LA := hAA.1
  have LB := hBB.1
  go_wp2
  go_loopw [7] (fun i w' => ∃ (j q : Nat) (t : List Nat), j ≤ n ∧ i = .int .i64 (j : Int) ∧ w' = (w2.alloc (.cells (arr t) 40)).drewN q ∧ Hid (t.length = n + m + 1) ∧ Lm.Small t ∧ Hid (Lm.val t = Lm.val (l.take j) * Lm.val k) ∧ Hid (∀ p, j + m ≤ p → Lm.lg t p = 0)) (fun i _ => n - (intOf i).toNat)
  case atStart => exact ⟨0, 0, List.replicate (n + m + 1) 0, Nat.zero_le _, rfl, rfl, Lib.hid (by simp), Lm.small_replicate _, Lib.hid (by rw [val_zeros]; simp [Lm.val]), Lib.hid (fun p _ => lg_zeros _ p)⟩
  case round =>
    obtain ⟨i, q, o, hi, rfl, rfl, hol, hos, hinv, hoz⟩ := hrel
    by_cases h0 : i < n
    · obtain ⟨b, oo, rfl, hb, hcell⟩ := LA.2.2.2 (by omega)
      have hg : w2.cell? ⟨b, oo + i, none⟩ = some (.int .u32 (Lm.lg l i : Nat)) := hcell i h0
      have hl0 : Lm.lg l i ≤ 4294967295 := by have := Lm.lg_lt hsl i; omega
      clear hcell
      go_wp2
      go_loopw [8, 9] (fun u r w' => ∃ (j x q : Nat) (t : List Nat), j ≤ m + 1 ∧ r = .int .i64 (j : Int) ∧ x ≤ 4294967295 ∧ u = .int .u64 (x : Int) ∧ w' = (w2.alloc (.cells (arr t) 40)).drewN q ∧ Hid (t.length = n + m + 1) ∧ Lm.Small t ∧ Hid (∀ p, i + j ≤ p → Lm.lg t p = Lm.lg o p) ∧
        Hid (Lm.val (t.take (i + j)) + 4294967296 ^ (i + j) * x = Lm.val (o.take (i + j)) + 4294967296 ^ i * (Lm.lg l i * Lm.val (k.take j)))) (fun _ r _ => m + 1 - (intOf r).toNat)
      case atStart => exact ⟨0, 0, q, o, Nat.zero_le _, rfl, by omega, rfl, rfl, hol, hos, fun p _ => rfl, Lib.hid (by simp [Lm.val])⟩
      case round =>
        obtain ⟨j, x, q', t, hj, rfl, hx, rfl, rfl, htl, hts, hold, hin⟩ := hrel
        by_cases h1 : j ≤ m
        · have hk0 : Lm.lg k j ≤ 4294967295 := by have := Lm.lg_lt hsk j; omega
          have ht0 : Lm.lg t (i + j) ≤ 4294967295 := by have := Lm.lg_lt hts (i + j); omega
          have hget := arr_get (t := t) (i := i + j) (by rw [htl.out]; omega)
          have e1 : IntKind.i64.wrap ((i : Int) + (j : Int)) = (i : Int) + (j : Int) := IntWalk.i64_in _ (by omega)
          have e2 : (0 : Int) ≤ (i : Int) + (j : Int) := by omega
          have e3 : (i : Int) + (j : Int) < (n : Int) + (m : Int) + 1 := by omega
          have e4 : ((i : Int) + (j : Int)).toNat = i + j := by omega
          have LBx : Lim (w2.alloc (.cells (arr t) 40)) B m d k := LB.alloc _
          go_wp2
          generalize hWQ : (w2.alloc (.cells (arr t) 40)).drewN q' = WQ
          have y1 : WQ.cell? ⟨w.heap.size, 1, none⟩ = some (.slice (some ⟨b, oo, none⟩) n c) := by rw [← hWQ]; exact (za.alloc _).c1
          have y2 : WQ.cell? ⟨w.heap.size + 1, 1, none⟩ = some (.slice B m d) := by rw [← hWQ]; exact (zb.alloc _).c1
          have y3 : WQ.cell? ⟨b, oo + i, none⟩ = some (.int .u32 (Lm.lg l i : Nat)) := by rw [← hWQ]; exact (World.cell?_alloc_lt _ _ _ hb).trans hg
          have y4 : WQ.cell? ⟨w2.heap.size, i + j, none⟩ = some (.int .u32 (Lm.lg t (i + j) : Nat)) := by rw [← hWQ]; exact (World.cell?_alloc_at _ _ _ _ rfl).trans hget
          have LBq : Lim WQ B m d k := by rw [← hWQ]; exact LBx
          have HW := Lib.hid hWQ
          clear hWQ
          go_quiet ((go_at_call 39; exact Calls.quiet_of_same ((at_any _ B m d k j (LBq.drewN _) (by omega)).mono fun _ _ h => ⟨h.1, h.2.symm⟩)))
          rw [← HW.out]
          have hf := Lm.mul_fits (c := x) (x := Lm.lg l i) (y := Lm.lg k j) (z := Lm.lg t (i + j)) (by omega) (by omega) (by omega) (by omega)
          rw [mul_wrap2 x _ _ _ hf]
          have hF := Lib.hid hf
          clear hf y1 y2 y3 y4 LBq
          obtain ⟨v, hv⟩ : ∃ v, v = x + (Lm.lg l i * Lm.lg k j + Lm.lg t (i + j)) := ⟨_, rfl⟩
          rw [← hv]
          have hvb : v ≤ 18446744073709551615 := by rw [hv]; have := hF.out; omega
          have HV := Lib.hid hv
          clear hv
          go_wp2
          rw [castd, castm, set_drewN, arr_set]
          have hst := Lm.mul_step (t := t) (o := o) (k := k) (i := i) (j := j) (c := x) (x := Lm.lg l i) (by rw [htl.out]; omega) hin.out (hold.out _ (Nat.le_refl _))
          rw [← HV.out] at hst
          exact ⟨⟨j + 1, _, _, _, by omega, by go_num, by omega, rfl, rfl, Lib.hid (by rw [List.length_set]; exact htl.out), Lm.small_set hts _ (Nat.mod_lt _ (by decide)), Lib.hid (fun p hp => by rw [Lm.lg_set (by rw [htl.out]; omega), if_neg (by omega)]; exact hold.out p (by omega)), Lib.hid hst⟩, by simp [intOf]; omega⟩
        · have hjm : j = m + 1 := by omega
          subst hjm
          have hfin := refmul_outer hsl hsk hkk.out hin.out hold.out hinv.out hoz.out
          have HF := Lib.hid hfin
          clear hfin
          have hdm : decide (m + 1 ≤ m) = false := by rw [decide_eq_false_iff_not]; omega
          go_wp2
          exact ⟨⟨i + 1, q', t, by omega, by go_num, rfl, htl, hts, Lib.hid HF.out.1, Lib.hid HF.out.2⟩, by simp [intOf]; omega⟩
    · have hin : i = n := by omega
      subst hin
      have hval := Lib.hid (show Lm.val o = Lm.val l * Lm.val k by rw [hinv.out, List.take_of_length_le (by rw [hll.out]; exact Nat.le_refl _)])
      have hO : Own ((w2.alloc (.cells (arr o) 40)).drewN q) w.heap.size (some ⟨w2.heap.size, 0, none⟩) (i + m + 1) (i + m + 1) o := by
        have h1 := Own.new w2 w.heap.size o hos hb0.size (by rw [hol.out]; unfold maxLen; omega)
        rw [hol.out] at h1
        exact h1
      have ya : Box ((w2.alloc (.cells (arr o) 40)).drewN q) w.heap.size (.bool g) (.slice A i c) := za.alloc _
      have yb : Box ((w2.alloc (.cells (arr o) 40)).drewN q) (w.heap.size + 1) (.bool g') (.slice B m d) := zb.alloc _
      have yr : Box ((w2.alloc (.cells (arr o) 40)).drewN q) (w.heap.size + 1 + 1) (.bool false) (.slice none 0 0) := zr.alloc _
      have hb4 : Below w.heap.size w ((w2.alloc (.cells (arr o) 40)).drewN q) := (hb0.alloc hb0.size _).drewN' q
      go_wp2_with fail
      generalize (w2.alloc (.cells (arr o) 40)).drewN q = WX at *
      refine (fit_row WX _ _ _ _ _ o _ hO (by omega) hval.out).mono ?_
      rintro e w4 ⟨_, rfl, ⟨s3, A3, n3, c3, rfl, hs3, ho3⟩, hb5⟩
      replace yr := yr.below' hb5
      go_wp2_with fail
      refine (refMayB_any w4 _ s3 A3 n3 c3 _ hs3 ho3).mono ?_
      rw [sgn_mul]
      rintro e w5 ⟨_, rfl, ⟨s2, A2, n2, c2, rfl, hs2, ho2⟩, hb6⟩
      replace yr := yr.below' hb6
      have z0 := yr.c0
      have z1 := yr.c1
      have z2 := yr.f0
      have z3 := yr.f1
      go_wp2
      obtain ⟨hB, hNV, hbl⟩ := close_num (base' := w.heap.size) yr (by omega) ((hb4.trans (hb5.mono hb4.size)).trans (hb6.mono (Nat.le_trans hb4.size hb5.size))) hs2 ho2 hb4.size
      generalize (w5.setCell ⟨w.heap.size + 1 + 1, 0, none⟩ (.bool s2)).setCell ⟨w.heap.size + 1 + 1, 1, none⟩ (.slice A2 n2 c2) = W2 at *
      have hy0 := hB.c0
      have hy1 := hB.c1
      exact bodyPost_ret (v := .tuple #[.agg #[.bool s2, .slice A2 n2 c2], .bool (fits (sgn g (Lm.val l) * sgn g' (Lm.val k)))]) (by simp [results, Try.results16, go_sem, hy0, hy1]) rfl ⟨_, rfl, hNV, hbl⟩

end Go.Proofs.Ytlmojomnebjhaaa
