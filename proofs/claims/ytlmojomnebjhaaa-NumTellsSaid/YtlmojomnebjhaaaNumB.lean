import Derived.Test.YtlmojomnebjhaaaOwn
import Derived.Deep.RegionHeld3
namespace Go.Proofs.Ytlmojomnebjhaaa
open Go.RowKit

/-- Integers of at most eight limbs lie below. -/
def Lm.top : Nat := 4294967296 ^ 8
theorem Lm.top_iff (n : Nat) : (Lm.digits n).length ≤ 8 ↔ n < Lm.top := Lm.digits_length n 8

/-- z, if it has at most eight limbs; else 0. -/
def clip (z : Int) : Int := if z.natAbs < Lm.top then z else 0
/-- Has z at most eight limbs? -/
def fits (z : Int) : Bool := decide (z.natAbs < Lm.top)
theorem natAbs_sgn (g : Bool) (v : Nat) : (sgn g v).natAbs = v := by cases g <;> simp [sgn]

theorem trimmed_at (w : World) (A : Option Addr) (n c : Nat) (l : List Nat) (k : Nat) (h : Lim w A n c l) (hn : c ≤ maxLen) (hk : Hid (k = (Lm.digits (Lm.val l)).length)) :
    Calls Try.prog 44 #[.slice A n c] w fun e w' => e = .returned (.slice A k c) ∧ w = w' := by
  rw [hk.out]
  exact trimmed_any w A n c l h hn

/-- What a call leaves that answers a number and a bool. -/
def NumPost (w : World) (z : Int) (ok : Bool) (e : Ending) (w' : World) : Prop :=
  ∃ V, e = .returned (.tuple #[V, .bool ok]) ∧ NumV w' w.heap.size V z ∧ Below w.heap.size w w'
def NumPostB (w : World) (base : Nat) (z : Int) (ok : Bool) (e : Ending) (w' : World) : Prop :=
  ∃ V, e = .returned (.tuple #[V, .bool ok]) ∧ NumV w' base V z ∧ Below w.heap.size w w'

theorem signed_num (w : World) (base : Nat) (g : Bool) (A : Option Addr) (n c v : Nat) (h : Own w base A n c (Lm.digits v)) :
    Calls Try.prog 40 #[.bool g, .slice A n c] w fun e w' => ∃ V, e = .returned V ∧ NumV w' base V (sgn g v) ∧ Below w.heap.size w w' :=
  (signed_any w g A n c).mono fun _ _ ⟨he, hb⟩ => ⟨_, he, (signedV_num h).below hb, hb⟩

theorem bounded_any (w : World) (base : Nat) (g : Bool) (A : Option Addr) (n c : Nat) (l : List Nat) (h : Own w base A n c l) :
    Calls Try.prog 32 #[.bool g, .slice A n c] w (NumPostB w base (clip (sgn g (Lm.val l))) (fits (sgn g (Lm.val l)))) := by
  obtain ⟨k, hk0⟩ : ∃ k, k = (Lm.digits (Lm.val l)).length := ⟨_, rfl⟩
  have hown : Own w base A k c (Lm.digits (Lm.val l)) := by
    rw [Lm.digits_take h.1, ← hk0]
    exact h.take k (by rw [hk0, ← h.2.1]; exact Lm.digits_small_len h.1)
  have htop : k ≤ 8 ↔ Lm.val l < Lm.top := by rw [hk0]; exact Lm.top_iff _
  have hk := Lib.hid hk0
  have hT := Lib.hid htop
  have hcap := h.cap.2
  have hlim := h.lim.alloc (.cells #[.bool false, .slice none 0 0] 24)
  have hlt : base ≤ base := Nat.le_refl _
  clear hk0 htop
  by_cases h8 : k ≤ 8
  · have e1 := Lib.hid (show clip (sgn g (Lm.val l)) = sgn g (Lm.val l) by unfold clip; rw [natAbs_sgn, if_pos (hT.out.1 h8)])
    have e2 := Lib.hid (show fits (sgn g (Lm.val l)) = true by unfold fits; rw [natAbs_sgn, decide_eq_true_iff]; exact hT.out.1 h8)
    go_enter Try.func32, Try.ntmps32
    go_wp2_with fail
    refine (trimmed_at _ A n c l k hlim hcap hk).mono ?_
    rintro e w' ⟨rfl, rfl⟩
    go_wp2_with fail
    refine (signed_num _ base g A k c (Lm.val l) (hown.below ((Below.refl _ _).alloc (Nat.le_refl _) _))).mono ?_
    rintro e w1 ⟨_, rfl, ⟨s1, A1, n1, c1, rfl, hs1, ho1⟩, hb⟩
    have hbx := (Box.new w (.bool false) (.slice none 0 0)).below' hb
    have hx0 := hbx.c0
    have hx1 := hbx.c1
    have hf0 := hbx.f0
    have hf1 := hbx.f1
    go_wp2
    have hB := (hbx.set0 (.bool s1)).set1 (.slice A1 n1 c1)
    have hbl := ((((Below.refl w.heap.size w).alloc (Nat.le_refl _) (.cells #[.bool false, .slice none 0 0] 24)).trans (hb.mono (by simp))).setCell (p := ⟨w.heap.size, 0, none⟩) (Nat.le_refl _) (.bool s1)).setCell (p := ⟨w.heap.size, 1, none⟩) (Nat.le_refl _) (.slice A1 n1 c1)
    have hNV := (NumV.box ⟨s1, A1, n1, c1, rfl, hs1, ho1⟩ hbx 0 (.bool s1)).box (hbx.set0 (.bool s1)) 1 (.slice A1 n1 c1)
    generalize (w1.setCell ⟨w.heap.size, 0, none⟩ (.bool s1)).setCell ⟨w.heap.size, 1, none⟩ (.slice A1 n1 c1) = W at *
    have hy0 := hB.c0
    have hy1 := hB.c1
    refine bodyPost_ret (v := .tuple #[.agg #[.bool s1, .slice A1 n1 c1], .bool true]) (by simp [results, Try.results32, go_sem, hy0, hy1]) rfl ?_
    rw [e1.out, e2.out]
    exact ⟨_, rfl, hNV, hbl⟩
  · have hnot : ¬ Lm.val l < Lm.top := fun h => h8 (hT.out.2 h)
    have e1 := Lib.hid (show clip (sgn g (Lm.val l)) = 0 by unfold clip; rw [natAbs_sgn, if_neg hnot])
    have e2 := Lib.hid (show fits (sgn g (Lm.val l)) = false by unfold fits; rw [natAbs_sgn, decide_eq_false_iff_not]; exact hnot)
    clear hnot
    go_enter Try.func32, Try.ntmps32
    go_wp2_with fail
    refine (trimmed_at _ A n c l k hlim hcap hk).mono ?_
    rintro e w' ⟨rfl, rfl⟩
    go_wp2
    refine bodyPost_ret (v := .tuple #[.agg #[.bool false, .slice none 0 0], .bool false]) (by simp [results, Try.results32, go_sem]) rfl ?_
    rw [e1.out, e2.out]
    exact ⟨_, rfl, NumV.zero _ _, (Below.refl _ _).alloc (Nat.le_refl _) _⟩

/-- What comes in as a number that may be: its limbs are the digits of v. -/
def Arg (w : World) (A : Option Addr) (n c v : Nat) : Prop := Lim w A n c (Lm.digits v) ∧ c ≤ maxLen ∧ n ≤ 1000

theorem Arg.below {w w' : World} {A : Option Addr} {n c v : Nat} (h : Arg w A n c v) (hb : Below w.heap.size w w') : Arg w' A n c v := ⟨h.1.below hb, h.2⟩
theorem Arg.alloc {w : World} {A : Option Addr} {n c v : Nat} (h : Arg w A n c v) (o : Obj) : Arg (w.alloc o) A n c v := ⟨h.1.alloc o, h.2⟩

/-- What a call leaves that makes a row of limbs. -/
def RowPost (w : World) (N v : Nat) (e : Ending) (w' : World) : Prop :=
  ∃ A c t, e = .returned (.slice A N c) ∧ Own w' w.heap.size A N c t ∧ Lm.val t = v ∧ Below w.heap.size w w'
theorem SumPost.row {w : World} {N v : Nat} (hN : N ≤ 100000) {e : Ending} {w' : World} (h : SumPost w N v e w') : RowPost w N v e w' := by
  obtain ⟨t, rfl, rfl, hl, hs, hv⟩ := h
  subst hl
  exact ⟨_, _, t, rfl, Own.new w _ t hs (Nat.le_refl _) (by unfold maxLen; omega), hv, (Below.refl _ _).alloc (Nat.le_refl _) _⟩

theorem add_row (w : World) (A B : Option Addr) (n c m d va vb : Nat) (h : Arg w A n c va) (h' : Arg w B m d vb) :
    Calls Try.prog 45 #[.slice A n c, .slice B m d] w (RowPost w (max n m + 1) (va + vb)) :=
  (addLimbs_any w A B n c m d _ _ h.1 h.2.2 h'.1 h'.2.2).mono fun _ _ hp => by
    have := h.2.2
    have := h'.2.2
    rw [Lm.val_digits, Lm.val_digits] at hp
    exact hp.row (by omega)
theorem sub_row (w : World) (A B : Option Addr) (n c m d va vb : Nat) (h : Arg w A n c va) (h' : Arg w B m d vb) (hle : vb ≤ va) :
    Calls Try.prog 46 #[.slice A n c, .slice B m d] w (RowPost w n (va - vb)) :=
  (subLimbs_any w A B n c m d _ _ h.1 h.2.2 h'.1 (by
      rw [← h.1.1, ← h'.1.1]
      refine (Lm.digits_length vb _).2 (Nat.lt_of_le_of_lt hle ((Lm.digits_length va _).1 (Nat.le_refl _)))) (by rw [Lm.val_digits, Lm.val_digits]; exact hle)).mono fun _ _ hp => by
    have := h.2.2
    rw [Lm.val_digits, Lm.val_digits] at hp
    exact hp.row (by omega)
theorem mul_row (w : World) (A B : Option Addr) (n c m d va vb : Nat) (h : Arg w A n c va) (h' : Arg w B m d vb) :
    Calls Try.prog 33 #[.slice A n c, .slice B m d] w (RowPost w (n + m) (va * vb)) :=
  (mulLimbs_any w A B n c m d _ _ h.1 h.2.2 h'.1 h'.2.2).mono fun _ _ hp => by
    have := h.2.2
    have := h'.2.2
    rw [Lm.val_digits, Lm.val_digits] at hp
    exact hp.row (by omega)

theorem Arg.drew {w : World} {A : Option Addr} {n c v : Nat} (h : Arg w A n c v) : Arg w.drew A n c v := h
theorem Arg.drewN {w : World} {A : Option Addr} {n c v : Nat} (h : Arg w A n c v) (q : Nat) : Arg (w.drewN q) A n c v := h

theorem bounded_row (w : World) (base : Nat) (g : Bool) (A : Option Addr) (n c : Nat) (l : List Nat) (v : Nat) (h : Own w base A n c l) (hv : Lm.val l = v) :
    Calls Try.prog 32 #[.bool g, .slice A n c] w (NumPostB w base (clip (sgn g v)) (fits (sgn g v))) := by
  rw [← hv]
  exact bounded_any w base g A n c l h

/-- A number is stored into a variable of the call's own. -/
theorem close_num {w w2 : World} {r base base' : Nat} {x y : Value} {s : Bool} {A : Option Addr} {n c : Nat} {z : Int} (zr : Box w2 r x y) (hr : w.heap.size ≤ r) (hbl : Below w.heap.size w w2)
    (hs : Hid (s = decide (z < 0))) (ho : Own w2 base A n c (Lm.digits z.natAbs)) (hbase : base' ≤ base) :
    Box ((w2.setCell ⟨r, 0, none⟩ (.bool s)).setCell ⟨r, 1, none⟩ (.slice A n c)) r (.bool s) (.slice A n c) ∧
    NumV ((w2.setCell ⟨r, 0, none⟩ (.bool s)).setCell ⟨r, 1, none⟩ (.slice A n c)) base' (.agg #[.bool s, .slice A n c]) z ∧
    Below w.heap.size w ((w2.setCell ⟨r, 0, none⟩ (.bool s)).setCell ⟨r, 1, none⟩ (.slice A n c)) := by
  refine ⟨(zr.set0 _).set1 _, ?_, (hbl.setCell (p := ⟨r, 0, none⟩) hr _).setCell (p := ⟨r, 1, none⟩) hr _⟩
  have h1 : NumV w2 base (.agg #[.bool s, .slice A n c]) z := ⟨s, A, n, c, rfl, hs, ho⟩
  exact ((h1.box zr 0 _).box (zr.set0 _) 1 _).mono hbase

set_option maxHeartbeats 1000000 in
theorem sum_same (w : World) (g : Bool) (A B : Option Addr) (n c m d va vb : Nat) (h : Arg w A n c va) (h' : Arg w B m d vb) :
    Calls Try.prog 31 #[.agg #[.bool g, .slice A n c], .agg #[.bool g, .slice B m d]] w (NumPost w (clip (sgn g (va + vb))) (fits (sgn g (va + vb)))) := by
  go_enter Try.func31, Try.ntmps31
  go_wp2
  have hb0 := (((Below.refl w.heap.size w).alloc (Nat.le_refl _) (.cells #[.bool g, .slice A n c] 24)).alloc (by simp) (.cells #[.bool g, .slice B m d] 24)).alloc (by simp; omega) (.cells #[.bool false, .slice none 0 0] 24)
  have hxa := ((Box.new w (.bool g) (.slice A n c)).alloc (.cells #[.bool g, .slice B m d] 24)).alloc (.cells #[.bool false, .slice none 0 0] 24)
  have hxb := (Box.new (w.alloc (.cells #[.bool g, .slice A n c] 24)) (.bool g) (.slice B m d)).alloc (.cells #[.bool false, .slice none 0 0] 24)
  have hxr := Box.new ((w.alloc (.cells #[.bool g, .slice A n c] 24)).alloc (.cells #[.bool g, .slice B m d] 24)) (.bool false) (.slice none 0 0)
  simp only [World.size_alloc] at hxb hxr
  have hAA := h.below hb0
  have hBB := h'.below hb0
  generalize ((w.alloc (.cells #[.bool g, .slice A n c] 24)).alloc (.cells #[.bool g, .slice B m d] 24)).alloc (.cells #[.bool false, .slice none 0 0] 24) = W at *
  have x1 := hxa.c0
  have x2 := hxa.c1
  have x3 := hxb.c0
  have x4 := hxb.c1
  have ne1 : w.heap.size ≠ w.heap.size + 1 + 1 := by omega
  have ne2 : w.heap.size + 1 ≠ w.heap.size + 1 + 1 := by omega
  go_region_held3 (fun w' => w'.cell? ⟨w.heap.size, 0, none⟩ = some (.bool g) ∧ w'.cell? ⟨w.heap.size, 1, none⟩ = some (.slice A n c) ∧ w'.cell? ⟨w.heap.size + 1, 0, none⟩ = some (.bool g) ∧ w'.cell? ⟨w.heap.size + 1, 1, none⟩ = some (.slice B m d))
    (first | exact ⟨x1, x2, x3, x4⟩ | exact ⟨ya.c0, ya.c1, yb.c0, yb.c1⟩ | exact ⟨za.c0, za.c1, zb.c0, zb.c1⟩ | exact ⟨((za.far (p := ⟨w.heap.size + 1 + 1, 0, none⟩) ne1 _).far (p := ⟨w.heap.size + 1 + 1, 1, none⟩) ne1 _).c0, ((za.far (p := ⟨w.heap.size + 1 + 1, 0, none⟩) ne1 _).far (p := ⟨w.heap.size + 1 + 1, 1, none⟩) ne1 _).c1, ((zb.far (p := ⟨w.heap.size + 1 + 1, 0, none⟩) ne2 _).far (p := ⟨w.heap.size + 1 + 1, 1, none⟩) ne2 _).c0, ((zb.far (p := ⟨w.heap.size + 1 + 1, 0, none⟩) ne2 _).far (p := ⟨w.heap.size + 1 + 1, 1, none⟩) ne2 _).c1⟩)
    (first
      | (go_at_call 45; refine (add_row _ A B n c m d va vb (by exact hAA) (by exact hBB)).mono ?_; rintro e w1 ⟨A1, c1, t, rfl, ho1, hv1, hb1⟩; have ya := Box.below' (w := W.drew) hxa hb1; have yb := Box.below' (w := W.drew) hxb hb1; have yr := Box.below' (w := W.drew) hxr hb1; have Hv1 := Lib.hid hv1; clear hv1)
      | (go_at_call 32; refine (bounded_row _ _ g A1 _ c1 t _ (by exact ho1) (by exact Hv1.out)).mono ?_; rintro e w2 ⟨_, rfl, ⟨s2, A2, n2, c2, rfl, hs2, ho2⟩, hb2⟩; have za := ya.below' hb2; have zb := yb.below' hb2; have zr := yr.below' hb2; have z0 := zr.c0; have z1 := zr.c1; have z2 := zr.f0; have z3 := zr.f1))
  go_wp2
  have hsz := hb0.size
  obtain ⟨hB, hNV, hbl⟩ := close_num (base' := w.heap.size) zr (by omega) (hb0.trans (((Below.drew (Below.refl _ W)).trans (hb1.mono (by simpa using hsz))).trans (hb2.mono (by have := hb1.size; simp at this; omega)))) hs2 ho2 (by simpa using hsz)
  generalize (w2.setCell ⟨w.heap.size + 1 + 1, 0, none⟩ (.bool s2)).setCell ⟨w.heap.size + 1 + 1, 1, none⟩ (.slice A2 n2 c2) = W2 at *
  have hy0 := hB.c0
  have hy1 := hB.c1
  exact bodyPost_ret (v := .tuple #[.agg #[.bool s2, .slice A2 n2 c2], .bool (fits (sgn g (va + vb)))]) (by simp [results, Try.results31, go_sem, hy0, hy1]) rfl ⟨_, rfl, hNV, hbl⟩


set_option maxHeartbeats 1000000 in
theorem sum_less (w : World) (g g' : Bool) (A B : Option Addr) (n c m d va vb : Nat) (h : Arg w A n c va) (h' : Arg w B m d vb) (hg : g ≠ g') (hlt : va < vb) :
    Calls Try.prog 31 #[.agg #[.bool g, .slice A n c], .agg #[.bool g', .slice B m d]] w (NumPost w (clip (sgn g' (vb - va))) (fits (sgn g' (vb - va)))) := by
  have hgg : (g == g') = false := by simpa using hg
  have hcm : decide (Lm.cmpN va vb < 0) = true := by rw [decide_eq_true_iff, Lm.cmpN_lt]; exact hlt
  go_enter Try.func31, Try.ntmps31
  go_wp2_with fail
  have hb0 := (((Below.refl w.heap.size w).alloc (Nat.le_refl _) (.cells #[.bool g, .slice A n c] 24)).alloc (by simp) (.cells #[.bool g', .slice B m d] 24)).alloc (by simp; omega) (.cells #[.bool false, .slice none 0 0] 24)
  have hxa := ((Box.new w (.bool g) (.slice A n c)).alloc (.cells #[.bool g', .slice B m d] 24)).alloc (.cells #[.bool false, .slice none 0 0] 24)
  have hxb := (Box.new (w.alloc (.cells #[.bool g, .slice A n c] 24)) (.bool g') (.slice B m d)).alloc (.cells #[.bool false, .slice none 0 0] 24)
  have hxr := Box.new ((w.alloc (.cells #[.bool g, .slice A n c] 24)).alloc (.cells #[.bool g', .slice B m d] 24)) (.bool false) (.slice none 0 0)
  simp only [World.size_alloc] at hxb hxr
  have hAA := h.below hb0
  have hBB := h'.below hb0
  generalize ((w.alloc (.cells #[.bool g, .slice A n c] 24)).alloc (.cells #[.bool g', .slice B m d] 24)).alloc (.cells #[.bool false, .slice none 0 0] 24) = W at *
  refine (compareLimbs_any W A B n c m d _ _ hAA.1 hAA.2.1 hBB.1 hBB.2.1 (Lm.canon_digits _) (Lm.canon_digits _)).mono ?_
  rw [Lm.val_digits, Lm.val_digits]
  rintro e w' ⟨rfl, q, rfl⟩
  replace hb0 := hb0.drewN' q
  replace hxa := hxa.drewN q
  replace hxb := hxb.drewN q
  replace hxr := hxr.drewN q
  replace hAA := hAA.drewN q
  replace hBB := hBB.drewN q
  generalize W.drewN q = W at *
  go_wp2
  have x1 := hxa.c0
  have x2 := hxa.c1
  have x3 := hxb.c0
  have x4 := hxb.c1
  have ne1 : w.heap.size ≠ w.heap.size + 1 + 1 := by omega
  have ne2 : w.heap.size + 1 ≠ w.heap.size + 1 + 1 := by omega
  go_region_held3 (fun w' => w'.cell? ⟨w.heap.size, 0, none⟩ = some (.bool g) ∧ w'.cell? ⟨w.heap.size, 1, none⟩ = some (.slice A n c) ∧ w'.cell? ⟨w.heap.size + 1, 0, none⟩ = some (.bool g') ∧ w'.cell? ⟨w.heap.size + 1, 1, none⟩ = some (.slice B m d))
    (first | exact ⟨x1, x2, x3, x4⟩ | exact ⟨ya.c0, ya.c1, yb.c0, yb.c1⟩ | exact ⟨za.c0, za.c1, zb.c0, zb.c1⟩ | exact ⟨((za.far (p := ⟨w.heap.size + 1 + 1, 0, none⟩) ne1 _).far (p := ⟨w.heap.size + 1 + 1, 1, none⟩) ne1 _).c0, ((za.far (p := ⟨w.heap.size + 1 + 1, 0, none⟩) ne1 _).far (p := ⟨w.heap.size + 1 + 1, 1, none⟩) ne1 _).c1, ((zb.far (p := ⟨w.heap.size + 1 + 1, 0, none⟩) ne2 _).far (p := ⟨w.heap.size + 1 + 1, 1, none⟩) ne2 _).c0, ((zb.far (p := ⟨w.heap.size + 1 + 1, 0, none⟩) ne2 _).far (p := ⟨w.heap.size + 1 + 1, 1, none⟩) ne2 _).c1⟩)
    (first
      | (go_at_call 46; refine (sub_row _ B A m d n c vb va (by exact hBB) (by exact hAA) (by omega)).mono ?_; rintro e w1 ⟨A1, c1, t, rfl, ho1, hv1, hb1⟩; have ya := Box.below' (w := W.drew) hxa hb1; have yb := Box.below' (w := W.drew) hxb hb1; have yr := Box.below' (w := W.drew) hxr hb1; have Hv1 := Lib.hid hv1; clear hv1)
      | (go_at_call 32; refine (bounded_row _ _ g' A1 _ c1 t _ (by exact ho1) (by exact Hv1.out)).mono ?_; rintro e w2 ⟨_, rfl, ⟨s2, A2, n2, c2, rfl, hs2, ho2⟩, hb2⟩; have za := ya.below' hb2; have zb := yb.below' hb2; have zr := yr.below' hb2; have z0 := zr.c0; have z1 := zr.c1; have z2 := zr.f0; have z3 := zr.f1))
  go_wp2
  have hsz := hb0.size
  obtain ⟨hB, hNV, hbl⟩ := close_num (base' := w.heap.size) zr (by omega) (hb0.trans (((Below.drew (Below.refl _ W)).trans (hb1.mono (by simpa using hsz))).trans (hb2.mono (by have := hb1.size; simp at this; omega)))) hs2 ho2 (by simpa using hsz)
  generalize (w2.setCell ⟨w.heap.size + 1 + 1, 0, none⟩ (.bool s2)).setCell ⟨w.heap.size + 1 + 1, 1, none⟩ (.slice A2 n2 c2) = W2 at *
  have hy0 := hB.c0
  have hy1 := hB.c1
  exact bodyPost_ret (v := .tuple #[.agg #[.bool s2, .slice A2 n2 c2], .bool (fits (sgn g' (vb - va)))]) (by simp [results, Try.results31, go_sem, hy0, hy1]) rfl ⟨_, rfl, hNV, hbl⟩


set_option maxHeartbeats 1000000 in
theorem sum_more (w : World) (g g' : Bool) (A B : Option Addr) (n c m d va vb : Nat) (h : Arg w A n c va) (h' : Arg w B m d vb) (hg : g ≠ g') (hlt : vb ≤ va) :
    Calls Try.prog 31 #[.agg #[.bool g, .slice A n c], .agg #[.bool g', .slice B m d]] w (NumPost w (clip (sgn g (va - vb))) (fits (sgn g (va - vb)))) := by
  have hgg : (g == g') = false := by simpa using hg
  have hcm : decide (Lm.cmpN va vb < 0) = false := by rw [decide_eq_false_iff_not, Lm.cmpN_lt]; omega
  go_enter Try.func31, Try.ntmps31
  go_wp2_with fail
  have hb0 := (((Below.refl w.heap.size w).alloc (Nat.le_refl _) (.cells #[.bool g, .slice A n c] 24)).alloc (by simp) (.cells #[.bool g', .slice B m d] 24)).alloc (by simp; omega) (.cells #[.bool false, .slice none 0 0] 24)
  have hxa := ((Box.new w (.bool g) (.slice A n c)).alloc (.cells #[.bool g', .slice B m d] 24)).alloc (.cells #[.bool false, .slice none 0 0] 24)
  have hxb := (Box.new (w.alloc (.cells #[.bool g, .slice A n c] 24)) (.bool g') (.slice B m d)).alloc (.cells #[.bool false, .slice none 0 0] 24)
  have hxr := Box.new ((w.alloc (.cells #[.bool g, .slice A n c] 24)).alloc (.cells #[.bool g', .slice B m d] 24)) (.bool false) (.slice none 0 0)
  simp only [World.size_alloc] at hxb hxr
  have hAA := h.below hb0
  have hBB := h'.below hb0
  generalize ((w.alloc (.cells #[.bool g, .slice A n c] 24)).alloc (.cells #[.bool g', .slice B m d] 24)).alloc (.cells #[.bool false, .slice none 0 0] 24) = W at *
  refine (compareLimbs_any W A B n c m d _ _ hAA.1 hAA.2.1 hBB.1 hBB.2.1 (Lm.canon_digits _) (Lm.canon_digits _)).mono ?_
  rw [Lm.val_digits, Lm.val_digits]
  rintro e w' ⟨rfl, q, rfl⟩
  replace hb0 := hb0.drewN' q
  replace hxa := hxa.drewN q
  replace hxb := hxb.drewN q
  replace hxr := hxr.drewN q
  replace hAA := hAA.drewN q
  replace hBB := hBB.drewN q
  generalize W.drewN q = W at *
  go_wp2
  have x1 := hxa.c0
  have x2 := hxa.c1
  have x3 := hxb.c0
  have x4 := hxb.c1
  have ne1 : w.heap.size ≠ w.heap.size + 1 + 1 := by omega
  have ne2 : w.heap.size + 1 ≠ w.heap.size + 1 + 1 := by omega
  go_region_held3 (fun w' => w'.cell? ⟨w.heap.size, 0, none⟩ = some (.bool g) ∧ w'.cell? ⟨w.heap.size, 1, none⟩ = some (.slice A n c) ∧ w'.cell? ⟨w.heap.size + 1, 0, none⟩ = some (.bool g') ∧ w'.cell? ⟨w.heap.size + 1, 1, none⟩ = some (.slice B m d))
    (first | exact ⟨x1, x2, x3, x4⟩ | exact ⟨ya.c0, ya.c1, yb.c0, yb.c1⟩ | exact ⟨za.c0, za.c1, zb.c0, zb.c1⟩ | exact ⟨((za.far (p := ⟨w.heap.size + 1 + 1, 0, none⟩) ne1 _).far (p := ⟨w.heap.size + 1 + 1, 1, none⟩) ne1 _).c0, ((za.far (p := ⟨w.heap.size + 1 + 1, 0, none⟩) ne1 _).far (p := ⟨w.heap.size + 1 + 1, 1, none⟩) ne1 _).c1, ((zb.far (p := ⟨w.heap.size + 1 + 1, 0, none⟩) ne2 _).far (p := ⟨w.heap.size + 1 + 1, 1, none⟩) ne2 _).c0, ((zb.far (p := ⟨w.heap.size + 1 + 1, 0, none⟩) ne2 _).far (p := ⟨w.heap.size + 1 + 1, 1, none⟩) ne2 _).c1⟩)
    (first
      | (go_at_call 46; refine (sub_row _ A B n c m d va vb (by exact hAA) (by exact hBB) (by omega)).mono ?_; rintro e w1 ⟨A1, c1, t, rfl, ho1, hv1, hb1⟩; have ya := Box.below' (w := W.drew) hxa hb1; have yb := Box.below' (w := W.drew) hxb hb1; have yr := Box.below' (w := W.drew) hxr hb1; have Hv1 := Lib.hid hv1; clear hv1)
      | (go_at_call 32; refine (bounded_row _ _ g A1 _ c1 t _ (by exact ho1) (by exact Hv1.out)).mono ?_; rintro e w2 ⟨_, rfl, ⟨s2, A2, n2, c2, rfl, hs2, ho2⟩, hb2⟩; have za := ya.below' hb2; have zb := yb.below' hb2; have zr := yr.below' hb2; have z0 := zr.c0; have z1 := zr.c1; have z2 := zr.f0; have z3 := zr.f1))
  go_wp2
  have hsz := hb0.size
  obtain ⟨hB, hNV, hbl⟩ := close_num (base' := w.heap.size) zr (by omega) (hb0.trans (((Below.drew (Below.refl _ W)).trans (hb1.mono (by simpa using hsz))).trans (hb2.mono (by have := hb1.size; simp at this; omega)))) hs2 ho2 (by simpa using hsz)
  generalize (w2.setCell ⟨w.heap.size + 1 + 1, 0, none⟩ (.bool s2)).setCell ⟨w.heap.size + 1 + 1, 1, none⟩ (.slice A2 n2 c2) = W2 at *
  have hy0 := hB.c0
  have hy1 := hB.c1
  exact bodyPost_ret (v := .tuple #[.agg #[.bool s2, .slice A2 n2 c2], .bool (fits (sgn g (va - vb)))]) (by simp [results, Try.results31, go_sem, hy0, hy1]) rfl ⟨_, rfl, hNV, hbl⟩

end Go.Proofs.Ytlmojomnebjhaaa
