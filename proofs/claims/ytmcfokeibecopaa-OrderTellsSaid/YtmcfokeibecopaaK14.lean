/-
  PACKAGE order: class, compareNumbers, what it calls.
  PACKAGE order: compareNumbers.
  PACKAGE order: compareArgs, compare.
  PACKAGE order: Cmp, Less.
  WHAT EVERY PROGRAM ANSWERS THAT IS ONE: awake of beehivelaw5.
  LISTS OF NUMBERS: how they stand; pair; integers that came in.
  Same of light terms that may be; pairs; what OrderTotal leans on.
-/
import Derived.Test.YtmcfokeibecopaaK13
import Derived.Test.YtmcfokeibecopaaK8
import Derived.Test.YtmcfokeibecopaaK4
namespace Go.Proofs.Ytmcfokeibecopaa
open Go.RowKit
open Od

set_option maxRecDepth 100000 in
theorem class_any (k : Int) (w : World) : Calls Try.prog 32 #[.int .i64 k] w fun e w' => e = .returned (.int .i64 (cls k)) ∧ w = w' := by
  obtain ⟨R, hR⟩ : ∃ R, R = cls k := ⟨_, rfl⟩
  rw [← hR]
  have HR := Lib.hid hR
  clear hR
  by_cases hk : k = 1 ∨ k = 2 ∨ k = 3 ∨ k = 4 ∨ k = 5 ∨ k = 6 ∨ k = 7 ∨ k = 8 ∨ k = 9
  · rcases hk with rfl | rfl | rfl | rfl | rfl | rfl | rfl | rfl | rfl
    all_goals
      go_enter Try.func32, Try.ntmps32
      go_wp2
      go_ret
      exact ⟨by rw [HR.out]; rfl, rfl⟩
  · have hfin := Lib.hid (show R = 0 by
      rw [HR.out]
      unfold cls
      rw [if_neg (by omega), if_neg (by omega), if_neg (by omega), if_neg (by omega), if_neg (by omega), if_neg (by omega), if_neg (by omega)])
    clear HR
    have e1 : (k == 1) = false := beq_eq_false_iff_ne.2 (by omega)
    have e2 : (k == 2) = false := beq_eq_false_iff_ne.2 (by omega)
    have e3 : (k == 3) = false := beq_eq_false_iff_ne.2 (by omega)
    have e4 : (k == 4) = false := beq_eq_false_iff_ne.2 (by omega)
    have e5 : (k == 5) = false := beq_eq_false_iff_ne.2 (by omega)
    have e6 : (k == 6) = false := beq_eq_false_iff_ne.2 (by omega)
    have e7 : (k == 7) = false := beq_eq_false_iff_ne.2 (by omega)
    have e8 : (k == 8) = false := beq_eq_false_iff_ne.2 (by omega)
    have e9 : (k == 9) = false := beq_eq_false_iff_ne.2 (by omega)
    clear hk
    go_enter Try.func32, Try.ntmps32
    go_wp2
    go_ret
    exact ⟨by rw [hfin.out]; rfl, rfl⟩

set_option maxRecDepth 100000 in
theorem compareI (x y : Int) (w : World) : Calls Try.prog 33 #[.int .i64 x, .int .i64 y] w fun e w' => e = .returned (.int .i64 (sg x y)) ∧ w = w' := by
  rcases Int.lt_trichotomy x y with h | h | h
  · have fin : Hid (sg x y = -1) := Lib.hid (by unfold sg; rw [if_pos h])
    have hd : decide (x < y) = true := decide_eq_true h
    clear h
    go_enter Try.func33, Try.ntmps33
    go_wp2_with (go_at_call 53; refine (nan_int _ _).mono ?_; rintro e w' ⟨rfl, rfl⟩)
    go_ret
    rw [fin.out]; exact ⟨rfl, rfl⟩
  · subst h
    have fin : Hid (sg x x = 0) := Lib.hid (sg_self x)
    go_enter Try.func33, Try.ntmps33
    go_wp2_with (go_at_call 53; refine (nan_int _ _).mono ?_; rintro e w' ⟨rfl, rfl⟩)
    go_ret
    rw [fin.out]; exact ⟨rfl, rfl⟩
  · have fin : Hid (sg x y = 1) := Lib.hid (by unfold sg; rw [if_neg (by omega), if_pos h])
    have hd : decide (x < y) = false := decide_eq_false (by omega)
    have hd' : decide (y < x) = true := decide_eq_true h
    clear h
    go_enter Try.func33, Try.ntmps33
    go_wp2_with (go_at_call 53; refine (nan_int _ _).mono ?_; rintro e w' ⟨rfl, rfl⟩)
    go_ret
    rw [fin.out]; exact ⟨rfl, rfl⟩

set_option maxRecDepth 100000 in
theorem nan_str (x : ByteArray) (w : World) : Calls Try.prog 58 #[.string x] w fun e w' => e = .returned (.bool false) ∧ w = w' := by
  go_enter Try.func58, Try.ntmps58
  go_wp2
  go_ret
  exact ⟨rfl, rfl⟩

def cmpS (s s' : ByteArray) : Int := if Op.bytesLess s.toList s'.toList then -1 else if Op.bytesLess s'.toList s.toList then 1 else 0
set_option maxRecDepth 100000 in
theorem bl_eq {x y : List UInt8} (h1 : Op.bytesLess x y = false) (h2 : Op.bytesLess y x = false) : x = y :=
  map_inj (lex_eq (fun _ _ _ _ e => sg_eq.1 e) (by rw [bytes_sg, h1, h2]; rfl))
set_option maxRecDepth 100000 in
theorem compareS (s s' : ByteArray) (w : World) : Calls Try.prog 36 #[.string s, .string s'] w fun e w' => e = .returned (.int .i64 (cmpS s s')) ∧ w = w' := by
  obtain ⟨R, hR⟩ : ∃ R, R = cmpS s s' := ⟨_, rfl⟩
  rw [← hR]
  unfold cmpS at hR
  have HR := Lib.hid hR
  clear hR
  cases h1 : Op.bytesLess s.toList s'.toList with
  | true =>
    go_enter Try.func36, Try.ntmps36
    go_wp2_with (go_at_call 58; refine (nan_str _ _).mono ?_; rintro e w' ⟨rfl, rfl⟩)
    go_ret
    exact ⟨by rw [HR.out, h1]; rfl, rfl⟩
  | false =>
    cases h2 : Op.bytesLess s'.toList s.toList with
    | true =>
      have hq : (s.toList == s'.toList) = false := by
        rw [beq_eq_false_iff_ne]
        intro e
        rw [e] at h1 h2
        rw [h1] at h2
        cases h2
      go_enter Try.func36, Try.ntmps36
      go_wp2_with (go_at_call 58; refine (nan_str _ _).mono ?_; rintro e w' ⟨rfl, rfl⟩)
      go_ret
      exact ⟨by rw [HR.out, h1, h2]; rfl, rfl⟩
    | false =>
      have hq : (s.toList == s'.toList) = true := beq_iff_eq.2 (bl_eq h1 h2)
      go_enter Try.func36, Try.ntmps36
      go_wp2_with (go_at_call 58; refine (nan_str _ _).mono ?_; rintro e w' ⟨rfl, rfl⟩)
      go_ret
      exact ⟨by rw [HR.out, h1, h2]; rfl, rfl⟩

/-- The integer that a term stands for. -/
def Tm.zOf (t : Tm) : Int := if t.kind = 1 then t.num else sgn t.neg (Lm.val t.mag)
/-- An integer comes back. -/
def IgP (w : World) (z : Int) (e : Ending) (w' : World) : Prop :=
  ∃ (g : Bool) (A : Option Addr) (n c : Nat) (l : List Nat), e = .returned (.agg #[.bool g, .slice A n c]) ∧ Raw w' A n c l ∧ Hid (mayB g l = true) ∧ Hid (sgn g (Lm.val l) = z) ∧ Below w.heap.size w w'

set_option maxRecDepth 100000 in
set_option maxHeartbeats 1000000 in
theorem integer_big (w : World) (b o : Nat) (r : TR) (h : At7 w b o r) (t : Tm) (ht : TV w r t) (hf : t.boundB = true) (hk : r.k = 2) :
    Calls Try.prog 56 #[.pointer (some ⟨b, o, none⟩)] w (IgP w t.zOf) := by
  have hm : mayB t.neg t.mag = true := by
    unfold Tm.boundB at hf
    rw [ht.kind, hk] at hf
    simp at hf
    exact hf.1
  have hz : t.zOf = sgn t.neg (Lm.val t.mag) := by unfold Tm.zOf; rw [ht.kind, hk]; rfl
  rw [hz, ht.neg]
  rw [ht.neg] at hm
  have HM := Lib.hid hm
  have hlt := h.lt
  have hb0 := (Below.refl w.heap.size w).alloc (Nat.le_refl _) (.cells #[.bool false, .slice none 0 0] 24)
  have h1 := h.below hb0 hlt
  have hx := Box.new w (.bool false) (.slice none 0 0)
  have hW0 : (w.alloc (.cells #[.bool false, .slice none 0 0] 24)).heap.size = w.heap.size + 1 := by simp
  have F := ht.flat
  have hraw : Raw (w.alloc (.cells #[.bool false, .slice none 0 0] 24)) r.A r.ln r.lc t.mag := ⟨F.lim.below hb0, F.cap⟩
  generalize hW : w.alloc (.cells #[.bool false, .slice none 0 0] 24) = W at *
  have y0 := h1.c0
  rw [hk] at y0
  have y2 := h1.c2
  have y3 := h1.c3
  have x0 := hx.c0
  have x1 := hx.c1
  have f0 := hx.f0
  have f1 := hx.f1
  clear h h1 hk hm hz hf
  go_enter Try.func56, Try.ntmps56
  go_wp2
  have hB5 := (hx.set0 (.bool r.g)).set1 (.slice r.A r.ln r.lc)
  have hbl := (hb0.setCell (p := ⟨w.heap.size, 0, none⟩) (by simp) (.bool r.g)).setCell (p := ⟨w.heap.size, 1, none⟩) (by simp) (.slice r.A r.ln r.lc)
  clear x0 x1 f0 f1 hW
  generalize (W.setCell ⟨w.heap.size, 0, none⟩ (.bool r.g)).setCell ⟨w.heap.size, 1, none⟩ (.slice r.A r.ln r.lc) = W5 at *
  have z0 := hB5.c0
  have z1 := hB5.c1
  exact bodyPost_ret (v := .agg #[.bool r.g, .slice r.A r.ln r.lc]) (by simp [results, Try.results56, go_sem, z0, z1]) rfl ⟨_, _, _, _, _, rfl, ⟨F.lim.below hbl, F.cap⟩, HM, Lib.hid rfl, hbl⟩

set_option maxRecDepth 100000 in
set_option maxHeartbeats 1000000 in
theorem integer_int (w : World) (b o : Nat) (r : TR) (h : At7 w b o r) (t : Tm) (ht : TV w r t) (hk : r.k = 1) :
    Calls Try.prog 56 #[.pointer (some ⟨b, o, none⟩)] w (IgP w t.zOf) := by
  have hz : t.zOf = r.n := by unfold Tm.zOf; rw [ht.kind, hk, ht.num]; rfl
  rw [hz]
  have hlt := h.lt
  have hb0 := (Below.refl w.heap.size w).alloc (Nat.le_refl _) (.cells #[.bool false, .slice none 0 0] 24)
  have h1 := h.below hb0 hlt
  have hx := Box.new w (.bool false) (.slice none 0 0)
  have hn0 := ht.flat.n0
  have hn1 := ht.flat.n1
  have y0 := h1.c0
  rw [hk] at y0
  have y1 := h1.c1
  clear h h1 hk hz
  go_enter Try.func56, Try.ntmps56
  go_wp2_with fail
  clear y0 y1
  generalize w.alloc (.cells #[.bool false, .slice none 0 0] 24) = W at *
  refine (of_any W r.n hn0 hn1).mono ?_
  rintro e w1 ⟨_, rfl, ⟨s1, A1, n1, c1, rfl, hs1, ho1⟩, hb⟩
  have hx1 := hx.below' hb
  have x0 := hx1.c0
  have x1 := hx1.c1
  have f0 := hx1.f0
  have f1 := hx1.f1
  go_wp2
  obtain ⟨hB, hNV, hbl⟩ := close_num (base' := W.heap.size) hx1 (Nat.le_refl _) (hb0.trans (hb.mono hb0.size)) hs1 ho1 (Nat.le_refl _)
  generalize (w1.setCell ⟨w.heap.size, 0, none⟩ (.bool s1)).setCell ⟨w.heap.size, 1, none⟩ (.slice A1 n1 c1) = W2 at *
  have hy0 := hB.c0
  have hy1 := hB.c1
  obtain ⟨s', A', n', c', e, hs', ho'⟩ := hNV
  cases e
  have hnm := Nm.of_own hs' ho'
  exact bodyPost_ret (v := .agg #[.bool s1, .slice A1 n1 c1]) (by simp [results, Try.results56, go_sem, hy0, hy1]) rfl ⟨_, _, _, _, _, rfl, hnm.1, Lib.hid (hnm.may (by have := Lm.top_ge; omega)), Lib.hid hnm.eqZ, hbl⟩

set_option maxRecDepth 100000 in
theorem integer_any (w : World) (b o : Nat) (r : TR) (h : At7 w b o r) (t : Tm) (ht : TV w r t) (hf : t.boundB = true) (hk : r.k = 1 ∨ r.k = 2) :
    Calls Try.prog 56 #[.pointer (some ⟨b, o, none⟩)] w (IgP w t.zOf) := by
  rcases hk with hk | hk
  · exact integer_int w b o r h t ht hk
  · exact integer_big w b o r h t ht hf hk

/-- Two records in memory, and the terms that they stand for. -/
structure Two (w : World) (b o : Nat) (r : TR) (t : Tm) (b' o' : Nat) (r' : TR) (t' : Tm) : Prop where
  at1 : At7 w b o r
  at2 : At7 w b' o' r'
  tv1 : TV w r t
  tv2 : TV w r' t'
set_option maxRecDepth 100000 in
theorem Two.below {w w' : World} {b o : Nat} {r : TR} {t : Tm} {b' o' : Nat} {r' : TR} {t' : Tm} (h : Two w b o r t b' o' r' t') (hb : Below w.heap.size w w') : Two w' b o r t b' o' r' t' :=
  ⟨h.at1.below hb h.at1.lt, h.at2.below hb h.at2.lt, h.tv1.bel hb, h.tv2.bel hb⟩

set_option maxRecDepth 100000 in
theorem leafKey_int {t : Tm} (h : t.kind = 1 ∨ t.kind = 2) : t.leafKey = zkey t.zOf := by
  unfold Tm.leafKey Tm.zOf
  rcases h with h | h
  · rw [if_pos h, if_pos h]
  · rw [if_neg (by omega), if_pos h, if_neg (by omega)]
set_option maxRecDepth 100000 in
theorem leafKey_flt {t : Tm} (h : t.kind = 3) : t.leafKey = fkey t.bits.toNat := by
  unfold Tm.leafKey
  rw [if_neg (by omega), if_neg (by omega), if_pos h]
set_option maxRecDepth 100000 in
theorem TV.u64 {w : World} {r : TR} {t : Tm} (h : TV w r t) : U64 r.u := ⟨h.flat.u0, by have := h.flat.u1; omega⟩

set_option maxRecDepth 100000 in
set_option maxHeartbeats 2000000 in
theorem nums_ff (w : World) (b o : Nat) (r : TR) (t : Tm) (b' o' : Nat) (r' : TR) (t' : Tm) (h : Two w b o r t b' o' r' t') (hk : r.k = 3) (hk' : r'.k = 3) :
    Calls Try.prog 34 #[.pointer (some ⟨b, o, none⟩), .pointer (some ⟨b', o', none⟩)] w (IntPost w (lex Od.sg t.leafKey t'.leafKey)) := by
  have fin : lex Od.sg t.leafKey t'.leafKey = cmpI r.u r'.u := by
    rw [leafKey_flt (h.tv1.kind.trans hk), leafKey_flt (h.tv2.kind.trans hk'), fkey_f, h.tv1.bits, h.tv2.bits]
    rfl
  rw [fin]
  have u := h.tv1.u64
  have u' := h.tv2.u64
  have y0 := h.at1.c0
  have y4 := h.at1.c4
  have x0 := h.at2.c0
  have x4 := h.at2.c4
  rw [hk] at y0
  rw [hk'] at x0
  clear h hk hk' fin
  generalize r.u = x at *
  generalize r'.u = y at *
  obtain ⟨R, hR⟩ : ∃ R, R = cmpI x y := ⟨_, rfl⟩
  rw [← hR]
  have HR := Lib.hid hR
  clear hR
  go_enter Try.func34, Try.ntmps34
  go_wp2_with fail
  go_quiet ((go_at_call 54; exact Calls.quiet_of_same ((fCmp_any _ _ _ u u').mono fun _ _ h => ⟨h.1, h.2.symm⟩)))
  go_wp2
  go_ret
  exact ⟨by rw [HR.out]; rfl, (Below.refl _ _).drewN' _⟩
end Go.Proofs.Ytmcfokeibecopaa

namespace Go.Proofs.Ytmcfokeibecopaa
open Go.RowKit
open Od

set_option maxRecDepth 100000 in
theorem cmpNumR_of {g : Bool} {l : List Nat} {z : Int} {u : Int} (hm : Hid (mayB g l = true)) (hz : Hid (sgn g (Lm.val l) = z)) : cmpNumR g l u = cmpNumZ z u.toNat := by
  unfold cmpNumR
  rw [hm.out, if_pos rfl, hz.out]
set_option maxRecDepth 100000 in
theorem cmpR_of {g g' : Bool} {l l' : List Nat} {z z' : Int} (hm : Hid (mayB g l = true)) (hz : Hid (sgn g (Lm.val l) = z)) (hm' : Hid (mayB g' l' = true)) (hz' : Hid (sgn g' (Lm.val l') = z')) : cmpR g g' l l' = cmpZ z z' := by
  unfold cmpR
  rw [hm.out, hm'.out, hz.out, hz'.out]
  rfl
set_option maxRecDepth 100000 in
theorem cmpNumZ_tri (z : Int) (b : Nat) : cmpNumZ z b = 1 ∨ cmpNumZ z b = -1 := by
  unfold cmpNumZ
  split
  · exact .inr rfl
  · split
    · exact .inl rfl
    · exact .inr rfl

set_option maxRecDepth 100000 in
set_option maxHeartbeats 2000000 in
theorem nums_if (w : World) (b o : Nat) (r : TR) (t : Tm) (b' o' : Nat) (r' : TR) (t' : Tm) (h : Two w b o r t b' o' r' t') (hf : t.boundB = true) (hk : r.k = 1 ∨ r.k = 2) (hk' : r'.k = 3) :
    Calls Try.prog 34 #[.pointer (some ⟨b, o, none⟩), .pointer (some ⟨b', o', none⟩)] w (IntPost w (lex Od.sg t.leafKey t'.leafKey)) := by
  have fin : lex Od.sg t.leafKey t'.leafKey = cmpNumZ t.zOf r'.u.toNat := by
    rw [leafKey_int (by rw [h.tv1.kind]; exact hk), leafKey_flt (h.tv2.kind.trans hk'), zkey_f, h.tv2.bits]
  rw [fin]
  have y0 := h.at1.c0
  have x0 := h.at2.c0
  have x4 := h.at2.c4
  have e3 : (r.k == 3) = false := beq_eq_false_iff_ne.2 (by omega)
  rw [hk'] at x0
  have HK := Lib.hid hk
  have HH := Lib.hid h
  clear h hk hk' fin
  obtain ⟨R, hR⟩ : ∃ R, R = cmpNumZ t.zOf r'.u.toNat := ⟨_, rfl⟩
  rw [← hR]
  have HR := Lib.hid hR
  clear hR
  go_enter Try.func34, Try.ntmps34
  go_wp2_with fail
  go_region_with (first
    | (go_at_call 56; refine (integer_any w.drew b o r (by exact (HH.out.below (Below.refl _ _).drew).at1) t (by exact (HH.out.below (Below.refl _ _).drew).tv1) hf HK.out).mono ?_; rintro e v ⟨g, A, n, c, l, rfl, hraw, hm, hz, hv⟩; have H2 := Lib.hid ((HH.out.below (Below.refl _ _).drew).below hv); clear y0 x0 x4; have x4 := H2.out.at2.c4)
    | (go_at_call 55; refine (cmpNum_any _ g A n c l hraw _).mono ?_; rw [cmpNumR_of hm hz, ← HR.out]; rintro e v2 ⟨rfl, hv2⟩))
  all_goals
    go_wp2
    go_ret
    exact ⟨rfl, ((Below.refl w.heap.size w).drew.trans hv).trans (hv2.mono hv.size)⟩

set_option maxRecDepth 100000 in
set_option maxHeartbeats 2000000 in
theorem nums_fi (w : World) (b o : Nat) (r : TR) (t : Tm) (b' o' : Nat) (r' : TR) (t' : Tm) (h : Two w b o r t b' o' r' t') (hf' : t'.boundB = true) (hk : r.k = 3) (hk' : r'.k = 1 ∨ r'.k = 2) :
    Calls Try.prog 34 #[.pointer (some ⟨b, o, none⟩), .pointer (some ⟨b', o', none⟩)] w (IntPost w (lex Od.sg t.leafKey t'.leafKey)) := by
  have fin : lex Od.sg t.leafKey t'.leafKey = -cmpNumZ t'.zOf r.u.toNat := by
    rw [leafKey_int (t := t') (by rw [h.tv2.kind]; exact hk'), leafKey_flt (h.tv1.kind.trans hk), fkey_z, h.tv1.bits]
  rw [fin]
  have y0 := h.at1.c0
  have x0 := h.at2.c0
  have y4 := h.at1.c4
  have e3 : (r'.k == 3) = false := beq_eq_false_iff_ne.2 (by omega)
  rw [hk] at y0
  have HK := Lib.hid hk'
  have HH := Lib.hid h
  clear h hk hk' fin
  have ht := cmpNumZ_tri t'.zOf r.u.toNat
  obtain ⟨R, hR⟩ : ∃ R, R = cmpNumZ t'.zOf r.u.toNat := ⟨_, rfl⟩
  rw [← hR] at ht ⊢
  have HR := Lib.hid hR
  clear hR
  have e1 : IntKind.i64.wrap (-R) = -R := by rcases ht with rfl | rfl <;> rfl
  go_enter Try.func34, Try.ntmps34
  go_wp2_with fail
  go_region_with (first
    | (go_at_call 56; refine (integer_any w.drew b' o' r' (by exact (HH.out.below (Below.refl _ _).drew).at2) t' (by exact (HH.out.below (Below.refl _ _).drew).tv2) hf' HK.out).mono ?_; rintro e v ⟨g, A, n, c, l, rfl, hraw, hm, hz, hv⟩; have H2 := Lib.hid ((HH.out.below (Below.refl _ _).drew).below hv); clear y0 x0 y4; have y4 := H2.out.at1.c4)
    | (go_at_call 55; refine (cmpNum_any _ g A n c l hraw _).mono ?_; rw [cmpNumR_of hm hz, ← HR.out]; rintro e v2 ⟨rfl, hv2⟩))
  all_goals
    go_wp2
    go_ret
    exact ⟨by first | rfl | (rw [← e1]; rfl), ((Below.refl w.heap.size w).drew.trans hv).trans (hv2.mono hv.size)⟩

set_option maxRecDepth 100000 in
set_option maxHeartbeats 2000000 in
theorem nums_11 (w : World) (b o : Nat) (r : TR) (t : Tm) (b' o' : Nat) (r' : TR) (t' : Tm) (h : Two w b o r t b' o' r' t') (hk : r.k = 1) (hk' : r'.k = 1) :
    Calls Try.prog 34 #[.pointer (some ⟨b, o, none⟩), .pointer (some ⟨b', o', none⟩)] w (IntPost w (lex Od.sg t.leafKey t'.leafKey)) := by
  have fin : lex Od.sg t.leafKey t'.leafKey = Od.sg r.n r'.n := by
    rw [leafKey_int (by rw [h.tv1.kind]; exact .inl hk), leafKey_int (by rw [h.tv2.kind]; exact .inl hk'), zkey_z, cmpZ_sg]
    unfold Tm.zOf
    rw [h.tv1.kind, h.tv2.kind, if_pos hk, if_pos hk', h.tv1.num, h.tv2.num]
  rw [fin]
  have y0 := h.at1.c0
  have y1 := h.at1.c1
  have x0 := h.at2.c0
  have x1 := h.at2.c1
  rw [hk] at y0
  rw [hk'] at x0
  clear h hk hk' fin
  generalize r.n = x at *
  generalize r'.n = y at *
  obtain ⟨R, hR⟩ : ∃ R, R = Od.sg x y := ⟨_, rfl⟩
  rw [← hR]
  have HR := Lib.hid hR
  clear hR
  go_enter Try.func34, Try.ntmps34
  go_wp2_with fail
  go_quiet ((go_at_call 33; exact Calls.quiet_of_same ((compareI _ _ _).mono fun _ _ h => ⟨h.1, h.2.symm⟩)))
  go_wp2
  go_ret
  exact ⟨by rw [HR.out]; rfl, (Below.refl _ _).drewN' _⟩

set_option maxRecDepth 100000 in
set_option maxHeartbeats 2000000 in
theorem nums_ii (w : World) (b o : Nat) (r : TR) (t : Tm) (b' o' : Nat) (r' : TR) (t' : Tm) (h : Two w b o r t b' o' r' t') (hf : t.boundB = true) (hf' : t'.boundB = true) (hk : r.k = 1 ∨ r.k = 2) (hk' : r'.k = 1 ∨ r'.k = 2) (hn : ¬ (r.k = 1 ∧ r'.k = 1)) :
    Calls Try.prog 34 #[.pointer (some ⟨b, o, none⟩), .pointer (some ⟨b', o', none⟩)] w (IntPost w (lex Od.sg t.leafKey t'.leafKey)) := by
  have fin : lex Od.sg t.leafKey t'.leafKey = cmpZ t.zOf t'.zOf := by
    rw [leafKey_int (by rw [h.tv1.kind]; exact hk), leafKey_int (by rw [h.tv2.kind]; exact hk'), zkey_z]
  rw [fin]
  have y0 := h.at1.c0
  have x0 := h.at2.c0
  have HK := Lib.hid hk
  have HK' := Lib.hid hk'
  have HH := Lib.hid h
  clear h fin
  obtain ⟨R, hR⟩ : ∃ R, R = cmpZ t.zOf t'.zOf := ⟨_, rfl⟩
  rw [← hR]
  have HR := Lib.hid hR
  clear hR
  rcases hk with e | e <;> rcases hk' with e' | e'
  · exact absurd ⟨e, e'⟩ hn
  all_goals
    rw [e] at y0
    rw [e'] at x0
    clear e e' hn
    go_enter Try.func34, Try.ntmps34
    go_wp2_with fail
    refine (integer_any w b o r HH.out.at1 t HH.out.tv1 hf HK.out).mono ?_
    rintro e v ⟨g, A, n, c, l, rfl, hraw, hm, hz, hv⟩
    have H2 := Lib.hid (HH.out.below hv)
    clear y0 x0
    go_wp2_with fail
    refine (integer_any v b' o' r' H2.out.at2 t' H2.out.tv2 hf' HK'.out).mono ?_
    rintro e v2 ⟨g', A', n', c', l', rfl, hraw', hm', hz', hv2⟩
    go_wp2_with fail
    refine (cmp_raw v2 g g' A A' n c n' c' l l' (hraw.below hv2) hraw').mono ?_
    rw [cmpR_of hm hz hm' hz', ← HR.out]
    rintro e v3 ⟨rfl, hv3⟩
    go_wp2
    go_ret
    exact ⟨rfl, (hv.trans (hv2.mono hv.size)).trans (hv3.mono (Nat.le_trans hv.size hv2.size))⟩
set_option maxRecDepth 100000 in
theorem nums_any (w : World) (b o : Nat) (r : TR) (t : Tm) (b' o' : Nat) (r' : TR) (t' : Tm) (h : Two w b o r t b' o' r' t') (hf : t.boundB = true) (hf' : t'.boundB = true) (hk : r.k = 1 ∨ r.k = 2 ∨ r.k = 3) (hk' : r'.k = 1 ∨ r'.k = 2 ∨ r'.k = 3) :
    Calls Try.prog 34 #[.pointer (some ⟨b, o, none⟩), .pointer (some ⟨b', o', none⟩)] w (IntPost w (lex Od.sg t.leafKey t'.leafKey)) := by
  by_cases e : r.k = 3
  · by_cases e' : r'.k = 3
    · exact nums_ff w b o r t b' o' r' t' h e e'
    · exact nums_fi w b o r t b' o' r' t' h hf' e (by omega)
  · by_cases e' : r'.k = 3
    · exact nums_if w b o r t b' o' r' t' h hf (by omega) e'
    · by_cases h1 : r.k = 1 ∧ r'.k = 1
      · exact nums_11 w b o r t b' o' r' t' h h1.1 h1.2
      · exact nums_ii w b o r t b' o' r' t' h hf hf' (by omega) (by omega) h1
end Go.Proofs.Ytmcfokeibecopaa

namespace Go.Proofs.Ytmcfokeibecopaa
open Go.RowKit
open Od

set_option maxRecDepth 100000 in
theorem lex_take {α : Type} {f : α → α → Int} : ∀ {xs ys : List α} {j : Nat} {a b : α}, (∀ x u v, x < j → xs[x]? = some u → ys[x]? = some v → f u v = 0) → xs[j]? = some a → ys[j]? = some b → f a b ≠ 0 → lex f xs ys = f a b
  | [], _, _, _, _, _, h, _, _ => by simp at h
  | _ :: _, [], _, _, _, _, _, h, _ => by simp at h
  | x :: xs, y :: ys, 0, a, b, _, h1, h2, hn => by
    simp at h1 h2
    subst h1 h2
    rw [lex, andC, if_neg hn]
  | x :: xs, y :: ys, j + 1, a, b, h, h1, h2, hn => by
    simp at h1 h2
    rw [lex, h 0 x y (by omega) rfl rfl, andC, if_pos rfl]
    exact lex_take (fun i u v hi e1 e2 => h (i + 1) u v (by omega) (by simpa using e1) (by simpa using e2)) h1 h2 hn
set_option maxRecDepth 100000 in
theorem lex_all {α : Type} {f : α → α → Int} : ∀ {xs ys : List α}, xs.length = ys.length → (∀ (x : Nat) (u v : α), xs[x]? = some u → ys[x]? = some v → f u v = 0) → lex f xs ys = 0
  | [], [], _, _ => rfl
  | [], _ :: _, h, _ => by simp at h
  | _ :: _, [], h, _ => by simp at h
  | x :: xs, y :: ys, hl, h => by
    rw [lex, h 0 x y rfl rfl, andC, if_pos rfl]
    exact lex_all (by simpa using hl) (fun i u v e1 e2 => h (i + 1) u v (by simpa using e1) (by simpa using e2))

/-- How rows of arguments stand. -/
noncomputable def cmpArgs (xs ys : List Tm) : Int := andC (Od.sg xs.length ys.length) (lex Tm.cmpT xs ys)

set_option maxRecDepth 100000 in
set_option maxRecDepth 100000 in
set_option maxHeartbeats 4000000 in
theorem compareArgs_of (ts : List Tm) (ih : ∀ t ∈ ts, ∀ (w : World) (b o : Nat) (r : TR) (b' o' : Nat) (r' : TR) (t' : Tm), Two w b o r t b' o' r' t' → t.formB = true → t'.formB = true → Calls Try.prog 20 #[.pointer (some ⟨b, o, none⟩), .pointer (some ⟨b', o', none⟩)] w (IntPost w (Tm.cmpT t t')))
    (ts' : List Tm) (hf : ∀ t ∈ ts, t.formB = true) (hf' : ∀ t ∈ ts', t.formB = true) (w : World) (B : Option Addr) (m d : Nat) (h : TVs w B m d ts) (B' : Option Addr) (m' d' : Nat) (h' : TVs w B' m' d' ts') :
    Calls Try.prog 35 #[.slice B m d, .slice B' m' d'] w (IntPost w (cmpArgs ts ts')) := by
  obtain ⟨R, hR⟩ : ∃ R, R = cmpArgs ts ts' := ⟨_, rfl⟩
  rw [← hR]
  unfold cmpArgs at hR
  rw [h.len, h'.len] at hR
  have HR := Lib.hid hR
  have IH := Lib.hid ih
  have HF := Lib.hid hf
  have HF' := Lib.hid hf'
  clear hR ih hf hf'
  have hml : m ≤ maxLen := Nat.le_trans h.md h.dd
  have hml' : (m : Int) ≤ 9223372036854775807 := by unfold maxLen at hml; omega
  by_cases hm : m = m'
  · subst hm
    have hcase := Lib.hid (show R = lex Tm.cmpT ts ts' by rw [HR.out, sg_self]; rfl)
    clear HR
    have HH := Lib.hid h
    have HH' := Lib.hid h'
    have HL := Lib.hid (h.len.trans h'.len.symm)
    clear h h'
    go_enter Try.func35, Try.ntmps35
    go_wp2_with fail
    go_loopw [19] (fun i w' => ∃ j : Nat, j ≤ m ∧ i = .int .i64 (j : Int) ∧ Hid (∀ (x : Nat) (a b : Tm), x < j → ts[x]? = some a → ts'[x]? = some b → Tm.cmpT a b = 0) ∧ Below w.heap.size w w') (fun i _ => m - (intOf i).toNat)
    case atStart => exact ⟨0, Nat.zero_le _, rfl, Lib.hid (fun x a b h => absurd h (by omega)), Below.refl _ _⟩
    case round =>
      obtain ⟨j, hj, rfl, hz, hb⟩ := hrel
      by_cases hjm : j < m
      · have hd1 : decide ((j : Int) < (m : Int)) = true := by rw [decide_eq_true_iff]; omega
        obtain ⟨b, o, ra, ta, e, hlt, h7, het, htv⟩ := (HH.out.below hb).get j hjm
        obtain ⟨b', o', rb, tb, e', hlt', h7', het', htv'⟩ := (HH'.out.below hb).get j hjm
        subst e e'
        have HT := Lib.hid (show Two wr.drew b (o + j * 7) ra ta b' (o' + j * 7) rb tb from Two.below ⟨h7, h7', htv, htv'⟩ (Below.refl _ _).drew)
        clear h7 h7' htv htv'
        have IA := Lib.hid (IH.out ta (List.mem_of_getElem? het))
        have fa := HF.out ta (List.mem_of_getElem? het)
        have fb := HF'.out tb (List.mem_of_getElem? het')
        obtain ⟨q, hq⟩ : ∃ q, q = Tm.cmpT ta tb := ⟨_, rfl⟩
        have HQ := Lib.hid hq
        clear hq
        go_wp2_with fail
        go_region_with (first
          | (go_at_call 20; refine (IA.out wr.drew b (o + j * 7) ra b' (o' + j * 7) rb tb HT.out fa fb).mono ?_; rw [← HQ.out]; rintro e v ⟨rfl, hv⟩))
        all_goals
          by_cases h0 : q = 0
          · subst h0
            have hst := Lib.hid (show ∀ (x : Nat) (a b : Tm), x < j + 1 → ts[x]? = some a → ts'[x]? = some b → Tm.cmpT a b = 0 from fun x a b h1 h2 h3 => by
              by_cases e : x = j
              · subst e
                rw [het] at h2
                rw [het'] at h3
                cases h2
                cases h3
                exact HQ.out.symm
              · exact hz.out x a b (by omega) h2 h3)
            go_wp2_with fail
            exact ⟨⟨j + 1, by omega, by go_num, hst, hb.trans ((((Below.refl _ _).drew).trans hv).mono hb.size)⟩, by simp [intOf]; omega⟩
          · have hfi := Lib.hid (show R = q by
              rw [hcase.out, HQ.out]
              rw [HQ.out] at h0
              exact lex_take (fun x u v hx e1 e2 => hz.out x u v hx e1 e2) het het' h0)
            have hd2 : (q != 0) = true := by rw [bne_iff_ne]; exact h0
            clear h0
            go_wp2
            go_ret
            exact ⟨by rw [hfi.out]; rfl, hb.trans ((((Below.refl _ _).drew).trans hv).mono hb.size)⟩
      · have hd1 : decide ((j : Int) < (m : Int)) = false := by rw [decide_eq_false_iff_not]; omega
        have hfi := Lib.hid (show R = 0 by
          rw [hcase.out]
          refine lex_all HL.out (fun x u v e1 e2 => hz.out x u v ?_ e1 e2)
          have := (List.getElem?_eq_some_iff.1 e1).1
          rw [HH.out.len] at this
          omega)
        go_wp2
        go_ret
        exact ⟨by rw [hfi.out]; rfl, hb⟩
  · have hfi := Lib.hid (show R = Od.sg (m : Int) (m' : Int) by
      rw [HR.out, andC, if_neg]
      rw [sg_eq]
      omega)
    have hd : ((m : Int) != (m' : Int)) = true := by rw [bne_iff_ne]; omega
    clear HR
    go_enter Try.func35, Try.ntmps35
    go_wp2_with fail
    refine (compareI _ _ w).mono ?_
    rw [← hfi.out]
    rintro e w1 ⟨rfl, rfl⟩
    go_wp2
    go_ret
    exact ⟨rfl, Below.refl _ _⟩
set_option maxRecDepth 100000 in
theorem andC_zero (x : Int) : andC x 0 = x := by
  unfold andC
  split
  · next h => exact h.symm
  · rfl
set_option maxRecDepth 100000 in
theorem Tm.form_args {t : Tm} (h : t.formB = true) (hk : ¬ (t.kind = 6 ∨ t.kind = 8)) : t.args = [] := by
  rw [Tm.form_ment h, Tm.ment_args, if_neg hk]
set_option maxRecDepth 100000 in
theorem cmpT_cls {a b : Tm} (h : cls a.kind ≠ cls b.kind) : Tm.cmpT a b = Od.sg (cls a.kind) (cls b.kind) := by
  rw [Tm.cmpT_eq, andC, if_neg]
  rw [sg_eq]
  exact h
set_option maxRecDepth 100000 in
theorem cmpT_leaf {a b : Tm} (hc : cls a.kind = cls b.kind) (ha : a.args = []) (hb : b.args = []) : Tm.cmpT a b = lex Od.sg a.leafKey b.leafKey := by
  rw [Tm.cmpT_eq, hc, sg_self, andC, if_pos rfl, ha, hb]
  exact andC_zero _
set_option maxRecDepth 100000 in
theorem cmpT_node {a b : Tm} (hk : a.kind = b.kind) (h : a.kind = 6 ∨ a.kind = 8) : Tm.cmpT a b = cmpArgs a.args b.args := by
  have ka : a.leafKey = [] := by unfold Tm.leafKey; rw [if_neg (by omega), if_neg (by omega), if_neg (by omega), if_neg (by omega), if_neg (by omega)]
  have kb : b.leafKey = [] := by unfold Tm.leafKey; rw [if_neg (by omega), if_neg (by omega), if_neg (by omega), if_neg (by omega), if_neg (by omega)]
  rw [Tm.cmpT_eq, hk, sg_self, andC, if_pos rfl, ka, kb]
  rfl
set_option maxRecDepth 100000 in
theorem leafKey_n {t : Tm} (h : t.kind = 4 ∨ t.kind = 5) : t.leafKey = [t.num] := by
  unfold Tm.leafKey; rw [if_neg (by omega), if_neg (by omega), if_neg (by omega), if_pos h]
set_option maxRecDepth 100000 in
theorem leafKey_s {t : Tm} (h : t.kind = 9) : t.leafKey = t.bytes.toList.map (fun x => (x.toNat : Int)) := by
  unfold Tm.leafKey; rw [if_neg (by omega), if_neg (by omega), if_neg (by omega), if_neg (by omega), if_pos h]
set_option maxRecDepth 100000 in
theorem leafKey_o {t : Tm} (h : t.kind = 7) : t.leafKey = [] := by
  unfold Tm.leafKey; rw [if_neg (by omega), if_neg (by omega), if_neg (by omega), if_neg (by omega), if_neg (by omega)]
set_option maxRecDepth 100000 in
theorem cls_one {k k' : Int} (h : cls k = cls k') (hk : k = 1 ∨ k = 2 ∨ k = 3 ∨ k = 4 ∨ k = 5 ∨ k = 6 ∨ k = 7 ∨ k = 8 ∨ k = 9) (hk' : k' = 1 ∨ k' = 2 ∨ k' = 3 ∨ k' = 4 ∨ k' = 5 ∨ k' = 6 ∨ k' = 7 ∨ k' = 8 ∨ k' = 9) : k = k' ∨ ((k = 1 ∨ k = 2 ∨ k = 3) ∧ (k' = 1 ∨ k' = 2 ∨ k' = 3)) := by
  rcases hk with rfl | rfl | rfl | rfl | rfl | rfl | rfl | rfl | rfl <;> rcases hk' with rfl | rfl | rfl | rfl | rfl | rfl | rfl | rfl | rfl <;> first | (exact .inl rfl) | (exact .inr ⟨by omega, by omega⟩) | (exact absurd h (by decide))

set_option maxRecDepth 100000 in
set_option maxRecDepth 100000 in
set_option maxHeartbeats 4000000 in
theorem compare_cls (w : World) (b o : Nat) (r : TR) (t : Tm) (b' o' : Nat) (r' : TR) (t' : Tm) (h : Two w b o r t b' o' r' t') (hc : cls r.k ≠ cls r'.k) :
    Calls Try.prog 20 #[.pointer (some ⟨b, o, none⟩), .pointer (some ⟨b', o', none⟩)] w (IntPost w (Od.sg (cls r.k) (cls r'.k))) := by
  have y0 := h.at1.c0
  have x0 := h.at2.c0
  clear h
  generalize r.k = k at *
  generalize r'.k = k' at *
  have hd : (cls k != cls k') = true := by rw [bne_iff_ne]; exact hc
  obtain ⟨R, hR⟩ : ∃ R, R = Od.sg (cls k) (cls k') := ⟨_, rfl⟩
  rw [← hR]
  have HR := Lib.hid hR
  clear hR hc
  go_enter Try.func20, Try.ntmps20
  go_wp2_with fail
  go_quiet ((go_at_call 32; exact Calls.quiet_of_same ((class_any _ _).mono fun _ _ h => ⟨h.1, h.2.symm⟩)))
  have y0' : (w.drewN nq).cell? ⟨b, o, none⟩ = some (.int .i64 k) := y0
  have x0' : (w.drewN nq).cell? ⟨b', o', none⟩ = some (.int .i64 k') := x0
  have hb : Below w.heap.size w (w.drewN nq) := (Below.refl _ _).drewN' _
  clear y0 x0
  generalize w.drewN nq = W at *
  go_wp2_with fail
  go_quiet (first
    | (go_at_call 32; exact Calls.quiet_of_same ((class_any _ _).mono fun _ _ h => ⟨h.1, h.2.symm⟩))
    | (go_at_call 33; exact Calls.quiet_of_same ((compareI _ _ _).mono fun _ _ h => ⟨h.1, h.2.symm⟩)))
  go_wp2
  go_ret
  exact ⟨by rw [HR.out]; rfl, hb.drewN' _⟩

set_option maxRecDepth 100000 in
set_option maxRecDepth 100000 in
set_option maxHeartbeats 4000000 in
theorem compare_k1 (w : World) (b o : Nat) (r : TR) (t : Tm) (b' o' : Nat) (r' : TR) (t' : Tm) (h : Two w b o r t b' o' r' t') (hc : cls r.k = cls r'.k) (hk : r.k = 1) (hf : t.boundB = true) (hf' : t'.boundB = true) (hk' : r'.k = 1 ∨ r'.k = 2 ∨ r'.k = 3) :
    Calls Try.prog 20 #[.pointer (some ⟨b, o, none⟩), .pointer (some ⟨b', o', none⟩)] w (IntPost w (lex Od.sg t.leafKey t'.leafKey)) := by
  have y0 := h.at1.c0
  have x0 := h.at2.c0
  have e1 : (r.k == 1) = true := by rw [hk]; rfl
  have e2 : (r.k == 2) = false := by rw [hk]; rfl
  have e3 : (r.k == 3) = false := by rw [hk]; rfl
  have e4 : (r.k == 4) = false := by rw [hk]; rfl
  have e5 : (r.k == 5) = false := by rw [hk]; rfl
  have e6 : (r.k == 6) = false := by rw [hk]; rfl
  have e8 : (r.k == 8) = false := by rw [hk]; rfl
  have e9 : (r.k == 9) = false := by rw [hk]; rfl
  have hd : (cls r.k != cls r'.k) = false := by rw [hc]; simp
  have HH := Lib.hid h
  have HK := Lib.hid (show r.k = 1 ∨ r.k = 2 ∨ r.k = 3 by omega)
  have HK' := Lib.hid hk'
  clear hk'
  obtain ⟨R, hR⟩ : ∃ R, R = lex Od.sg t.leafKey t'.leafKey := ⟨_, rfl⟩
  rw [← hR]
  have HR := Lib.hid hR
  clear hR
  clear h hc hk
  go_enter Try.func20, Try.ntmps20
  go_wp2_with fail
  go_quiet ((go_at_call 32; exact Calls.quiet_of_same ((class_any _ _).mono fun _ _ h => ⟨h.1, h.2.symm⟩)))
  have y0' : (w.drewN nq).cell? ⟨b, o, none⟩ = some (.int .i64 r.k) := y0
  have hb : Below w.heap.size w (w.drewN nq) := (Below.refl _ _).drewN' _
  clear y0 x0
  generalize w.drewN nq = W at *
  go_wp2_with fail
  refine (nums_any W b o r t b' o' r' t' (HH.out.below hb) hf hf' HK.out HK'.out).mono ?_
  rw [← HR.out]
  rintro e w1 ⟨rfl, hb1⟩
  go_wp2
  go_ret
  exact ⟨rfl, hb.trans (hb1.mono hb.size)⟩

set_option maxRecDepth 100000 in
set_option maxRecDepth 100000 in
set_option maxHeartbeats 4000000 in
theorem compare_k2 (w : World) (b o : Nat) (r : TR) (t : Tm) (b' o' : Nat) (r' : TR) (t' : Tm) (h : Two w b o r t b' o' r' t') (hc : cls r.k = cls r'.k) (hk : r.k = 2) (hf : t.boundB = true) (hf' : t'.boundB = true) (hk' : r'.k = 1 ∨ r'.k = 2 ∨ r'.k = 3) :
    Calls Try.prog 20 #[.pointer (some ⟨b, o, none⟩), .pointer (some ⟨b', o', none⟩)] w (IntPost w (lex Od.sg t.leafKey t'.leafKey)) := by
  have y0 := h.at1.c0
  have x0 := h.at2.c0
  have e1 : (r.k == 1) = false := by rw [hk]; rfl
  have e2 : (r.k == 2) = true := by rw [hk]; rfl
  have e3 : (r.k == 3) = false := by rw [hk]; rfl
  have e4 : (r.k == 4) = false := by rw [hk]; rfl
  have e5 : (r.k == 5) = false := by rw [hk]; rfl
  have e6 : (r.k == 6) = false := by rw [hk]; rfl
  have e8 : (r.k == 8) = false := by rw [hk]; rfl
  have e9 : (r.k == 9) = false := by rw [hk]; rfl
  have hd : (cls r.k != cls r'.k) = false := by rw [hc]; simp
  have HH := Lib.hid h
  have HK := Lib.hid (show r.k = 1 ∨ r.k = 2 ∨ r.k = 3 by omega)
  have HK' := Lib.hid hk'
  clear hk'
  obtain ⟨R, hR⟩ : ∃ R, R = lex Od.sg t.leafKey t'.leafKey := ⟨_, rfl⟩
  rw [← hR]
  have HR := Lib.hid hR
  clear hR
  clear h hc hk
  go_enter Try.func20, Try.ntmps20
  go_wp2_with fail
  go_quiet ((go_at_call 32; exact Calls.quiet_of_same ((class_any _ _).mono fun _ _ h => ⟨h.1, h.2.symm⟩)))
  have y0' : (w.drewN nq).cell? ⟨b, o, none⟩ = some (.int .i64 r.k) := y0
  have hb : Below w.heap.size w (w.drewN nq) := (Below.refl _ _).drewN' _
  clear y0 x0
  generalize w.drewN nq = W at *
  go_wp2_with fail
  refine (nums_any W b o r t b' o' r' t' (HH.out.below hb) hf hf' HK.out HK'.out).mono ?_
  rw [← HR.out]
  rintro e w1 ⟨rfl, hb1⟩
  go_wp2
  go_ret
  exact ⟨rfl, hb.trans (hb1.mono hb.size)⟩

set_option maxRecDepth 100000 in
set_option maxRecDepth 100000 in
set_option maxHeartbeats 4000000 in
theorem compare_k3 (w : World) (b o : Nat) (r : TR) (t : Tm) (b' o' : Nat) (r' : TR) (t' : Tm) (h : Two w b o r t b' o' r' t') (hc : cls r.k = cls r'.k) (hk : r.k = 3) (hf : t.boundB = true) (hf' : t'.boundB = true) (hk' : r'.k = 1 ∨ r'.k = 2 ∨ r'.k = 3) :
    Calls Try.prog 20 #[.pointer (some ⟨b, o, none⟩), .pointer (some ⟨b', o', none⟩)] w (IntPost w (lex Od.sg t.leafKey t'.leafKey)) := by
  have y0 := h.at1.c0
  have x0 := h.at2.c0
  have e1 : (r.k == 1) = false := by rw [hk]; rfl
  have e2 : (r.k == 2) = false := by rw [hk]; rfl
  have e3 : (r.k == 3) = true := by rw [hk]; rfl
  have e4 : (r.k == 4) = false := by rw [hk]; rfl
  have e5 : (r.k == 5) = false := by rw [hk]; rfl
  have e6 : (r.k == 6) = false := by rw [hk]; rfl
  have e8 : (r.k == 8) = false := by rw [hk]; rfl
  have e9 : (r.k == 9) = false := by rw [hk]; rfl
  have hd : (cls r.k != cls r'.k) = false := by rw [hc]; simp
  have HH := Lib.hid h
  have HK := Lib.hid (show r.k = 1 ∨ r.k = 2 ∨ r.k = 3 by omega)
  have HK' := Lib.hid hk'
  clear hk'
  obtain ⟨R, hR⟩ : ∃ R, R = lex Od.sg t.leafKey t'.leafKey := ⟨_, rfl⟩
  rw [← hR]
  have HR := Lib.hid hR
  clear hR
  clear h hc hk
  go_enter Try.func20, Try.ntmps20
  go_wp2_with fail
  go_quiet ((go_at_call 32; exact Calls.quiet_of_same ((class_any _ _).mono fun _ _ h => ⟨h.1, h.2.symm⟩)))
  have y0' : (w.drewN nq).cell? ⟨b, o, none⟩ = some (.int .i64 r.k) := y0
  have hb : Below w.heap.size w (w.drewN nq) := (Below.refl _ _).drewN' _
  clear y0 x0
  generalize w.drewN nq = W at *
  go_wp2_with fail
  refine (nums_any W b o r t b' o' r' t' (HH.out.below hb) hf hf' HK.out HK'.out).mono ?_
  rw [← HR.out]
  rintro e w1 ⟨rfl, hb1⟩
  go_wp2
  go_ret
  exact ⟨rfl, hb.trans (hb1.mono hb.size)⟩

set_option maxRecDepth 100000 in
set_option maxRecDepth 100000 in
set_option maxHeartbeats 4000000 in
theorem compare_k4 (w : World) (b o : Nat) (r : TR) (t : Tm) (b' o' : Nat) (r' : TR) (t' : Tm) (h : Two w b o r t b' o' r' t') (hc : cls r.k = cls r'.k) (hk : r.k = 4) :
    Calls Try.prog 20 #[.pointer (some ⟨b, o, none⟩), .pointer (some ⟨b', o', none⟩)] w (IntPost w (Od.sg r.n r'.n)) := by
  have y0 := h.at1.c0
  have x0 := h.at2.c0
  have y1 := h.at1.c1
  have x1 := h.at2.c1
  have e1 : (r.k == 1) = false := by rw [hk]; rfl
  have e2 : (r.k == 2) = false := by rw [hk]; rfl
  have e3 : (r.k == 3) = false := by rw [hk]; rfl
  have e4 : (r.k == 4) = true := by rw [hk]; rfl
  have e5 : (r.k == 5) = false := by rw [hk]; rfl
  have e6 : (r.k == 6) = false := by rw [hk]; rfl
  have e8 : (r.k == 8) = false := by rw [hk]; rfl
  have e9 : (r.k == 9) = false := by rw [hk]; rfl
  have hd : (cls r.k != cls r'.k) = false := by rw [hc]; simp
  obtain ⟨R, hR⟩ : ∃ R, R = Od.sg r.n r'.n := ⟨_, rfl⟩
  rw [← hR]
  have HR := Lib.hid hR
  clear hR
  clear h hc hk
  go_enter Try.func20, Try.ntmps20
  go_wp2_with fail
  go_quiet ((go_at_call 32; exact Calls.quiet_of_same ((class_any _ _).mono fun _ _ h => ⟨h.1, h.2.symm⟩)))
  have y0' : (w.drewN nq).cell? ⟨b, o, none⟩ = some (.int .i64 r.k) := y0
  have hb : Below w.heap.size w (w.drewN nq) := (Below.refl _ _).drewN' _
  have y1' : (w.drewN nq).cell? ⟨b, o + 1, none⟩ = some (.int .i64 r.n) := y1
  have x1' : (w.drewN nq).cell? ⟨b', o' + 1, none⟩ = some (.int .i64 r'.n) := x1
  clear y1 x1
  clear y0 x0
  generalize w.drewN nq = W at *
  go_wp2_with fail
  go_quiet ((go_at_call 33; exact Calls.quiet_of_same ((compareI _ _ _).mono fun _ _ h => ⟨h.1, h.2.symm⟩)))
  go_wp2
  go_ret
  exact ⟨by rw [HR.out]; rfl, hb.drewN' _⟩

set_option maxRecDepth 100000 in
set_option maxRecDepth 100000 in
set_option maxHeartbeats 4000000 in
theorem compare_k5 (w : World) (b o : Nat) (r : TR) (t : Tm) (b' o' : Nat) (r' : TR) (t' : Tm) (h : Two w b o r t b' o' r' t') (hc : cls r.k = cls r'.k) (hk : r.k = 5) :
    Calls Try.prog 20 #[.pointer (some ⟨b, o, none⟩), .pointer (some ⟨b', o', none⟩)] w (IntPost w (Od.sg r.n r'.n)) := by
  have y0 := h.at1.c0
  have x0 := h.at2.c0
  have y1 := h.at1.c1
  have x1 := h.at2.c1
  have e1 : (r.k == 1) = false := by rw [hk]; rfl
  have e2 : (r.k == 2) = false := by rw [hk]; rfl
  have e3 : (r.k == 3) = false := by rw [hk]; rfl
  have e4 : (r.k == 4) = false := by rw [hk]; rfl
  have e5 : (r.k == 5) = true := by rw [hk]; rfl
  have e6 : (r.k == 6) = false := by rw [hk]; rfl
  have e8 : (r.k == 8) = false := by rw [hk]; rfl
  have e9 : (r.k == 9) = false := by rw [hk]; rfl
  have hd : (cls r.k != cls r'.k) = false := by rw [hc]; simp
  obtain ⟨R, hR⟩ : ∃ R, R = Od.sg r.n r'.n := ⟨_, rfl⟩
  rw [← hR]
  have HR := Lib.hid hR
  clear hR
  clear h hc hk
  go_enter Try.func20, Try.ntmps20
  go_wp2_with fail
  go_quiet ((go_at_call 32; exact Calls.quiet_of_same ((class_any _ _).mono fun _ _ h => ⟨h.1, h.2.symm⟩)))
  have y0' : (w.drewN nq).cell? ⟨b, o, none⟩ = some (.int .i64 r.k) := y0
  have hb : Below w.heap.size w (w.drewN nq) := (Below.refl _ _).drewN' _
  have y1' : (w.drewN nq).cell? ⟨b, o + 1, none⟩ = some (.int .i64 r.n) := y1
  have x1' : (w.drewN nq).cell? ⟨b', o' + 1, none⟩ = some (.int .i64 r'.n) := x1
  clear y1 x1
  clear y0 x0
  generalize w.drewN nq = W at *
  go_wp2_with fail
  go_quiet ((go_at_call 33; exact Calls.quiet_of_same ((compareI _ _ _).mono fun _ _ h => ⟨h.1, h.2.symm⟩)))
  go_wp2
  go_ret
  exact ⟨by rw [HR.out]; rfl, hb.drewN' _⟩

set_option maxRecDepth 100000 in
set_option maxRecDepth 100000 in
set_option maxHeartbeats 4000000 in
theorem compare_k6 (w : World) (b o : Nat) (r : TR) (t : Tm) (b' o' : Nat) (r' : TR) (t' : Tm) (h : Two w b o r t b' o' r' t') (hc : cls r.k = cls r'.k) (hk : r.k = 6) (Q : Int) (HQ : ∀ w' : World, Below w.heap.size w w' → Calls Try.prog 35 #[.slice r.B r.m r.d, .slice r'.B r'.m r'.d] w' (IntPost w' Q)) :
    Calls Try.prog 20 #[.pointer (some ⟨b, o, none⟩), .pointer (some ⟨b', o', none⟩)] w (IntPost w (Q)) := by
  have y0 := h.at1.c0
  have x0 := h.at2.c0
  have y6 := h.at1.c6
  have x6 := h.at2.c6
  have e1 : (r.k == 1) = false := by rw [hk]; rfl
  have e2 : (r.k == 2) = false := by rw [hk]; rfl
  have e3 : (r.k == 3) = false := by rw [hk]; rfl
  have e4 : (r.k == 4) = false := by rw [hk]; rfl
  have e5 : (r.k == 5) = false := by rw [hk]; rfl
  have e6 : (r.k == 6) = true := by rw [hk]; rfl
  have e8 : (r.k == 8) = false := by rw [hk]; rfl
  have e9 : (r.k == 9) = false := by rw [hk]; rfl
  have hd : (cls r.k != cls r'.k) = false := by rw [hc]; simp
  have HC := Lib.hid HQ
  clear HQ
  clear h hc hk
  go_enter Try.func20, Try.ntmps20
  go_wp2_with fail
  go_quiet ((go_at_call 32; exact Calls.quiet_of_same ((class_any _ _).mono fun _ _ h => ⟨h.1, h.2.symm⟩)))
  have y0' : (w.drewN nq).cell? ⟨b, o, none⟩ = some (.int .i64 r.k) := y0
  have hb : Below w.heap.size w (w.drewN nq) := (Below.refl _ _).drewN' _
  have y6' : (w.drewN nq).cell? ⟨b, o + 6, none⟩ = some (.slice r.B r.m r.d) := y6
  have x6' : (w.drewN nq).cell? ⟨b', o' + 6, none⟩ = some (.slice r'.B r'.m r'.d) := x6
  clear y6 x6
  clear y0 x0
  generalize w.drewN nq = W at *
  go_wp2_with fail
  go_region_with (first
    | (go_at_call 35; refine (HC.out _ (by exact hb.drew)).mono ?_; rintro e v ⟨rfl, hv⟩))
  all_goals
    go_wp2
    go_ret
    exact ⟨rfl, hb.drew.trans (hv.mono hb.size)⟩

set_option maxRecDepth 100000 in
set_option maxRecDepth 100000 in
set_option maxHeartbeats 4000000 in
theorem compare_k8 (w : World) (b o : Nat) (r : TR) (t : Tm) (b' o' : Nat) (r' : TR) (t' : Tm) (h : Two w b o r t b' o' r' t') (hc : cls r.k = cls r'.k) (hk : r.k = 8) (Q : Int) (HQ : ∀ w' : World, Below w.heap.size w w' → Calls Try.prog 35 #[.slice r.B r.m r.d, .slice r'.B r'.m r'.d] w' (IntPost w' Q)) :
    Calls Try.prog 20 #[.pointer (some ⟨b, o, none⟩), .pointer (some ⟨b', o', none⟩)] w (IntPost w (Q)) := by
  have y0 := h.at1.c0
  have x0 := h.at2.c0
  have y6 := h.at1.c6
  have x6 := h.at2.c6
  have e1 : (r.k == 1) = false := by rw [hk]; rfl
  have e2 : (r.k == 2) = false := by rw [hk]; rfl
  have e3 : (r.k == 3) = false := by rw [hk]; rfl
  have e4 : (r.k == 4) = false := by rw [hk]; rfl
  have e5 : (r.k == 5) = false := by rw [hk]; rfl
  have e6 : (r.k == 6) = false := by rw [hk]; rfl
  have e8 : (r.k == 8) = true := by rw [hk]; rfl
  have e9 : (r.k == 9) = false := by rw [hk]; rfl
  have hd : (cls r.k != cls r'.k) = false := by rw [hc]; simp
  have HC := Lib.hid HQ
  clear HQ
  clear h hc hk
  go_enter Try.func20, Try.ntmps20
  go_wp2_with fail
  go_quiet ((go_at_call 32; exact Calls.quiet_of_same ((class_any _ _).mono fun _ _ h => ⟨h.1, h.2.symm⟩)))
  have y0' : (w.drewN nq).cell? ⟨b, o, none⟩ = some (.int .i64 r.k) := y0
  have hb : Below w.heap.size w (w.drewN nq) := (Below.refl _ _).drewN' _
  have y6' : (w.drewN nq).cell? ⟨b, o + 6, none⟩ = some (.slice r.B r.m r.d) := y6
  have x6' : (w.drewN nq).cell? ⟨b', o' + 6, none⟩ = some (.slice r'.B r'.m r'.d) := x6
  clear y6 x6
  clear y0 x0
  generalize w.drewN nq = W at *
  go_wp2_with fail
  go_region_with (first
    | (go_at_call 35; refine (HC.out _ (by exact hb.drew)).mono ?_; rintro e v ⟨rfl, hv⟩))
  all_goals
    go_wp2
    go_ret
    exact ⟨rfl, hb.drew.trans (hv.mono hb.size)⟩

set_option maxRecDepth 100000 in
set_option maxRecDepth 100000 in
set_option maxHeartbeats 4000000 in
theorem compare_k7 (w : World) (b o : Nat) (r : TR) (t : Tm) (b' o' : Nat) (r' : TR) (t' : Tm) (h : Two w b o r t b' o' r' t') (hc : cls r.k = cls r'.k) (hk : r.k = 7) :
    Calls Try.prog 20 #[.pointer (some ⟨b, o, none⟩), .pointer (some ⟨b', o', none⟩)] w (IntPost w (0)) := by
  have y0 := h.at1.c0
  have x0 := h.at2.c0
  have e1 : (r.k == 1) = false := by rw [hk]; rfl
  have e2 : (r.k == 2) = false := by rw [hk]; rfl
  have e3 : (r.k == 3) = false := by rw [hk]; rfl
  have e4 : (r.k == 4) = false := by rw [hk]; rfl
  have e5 : (r.k == 5) = false := by rw [hk]; rfl
  have e6 : (r.k == 6) = false := by rw [hk]; rfl
  have e8 : (r.k == 8) = false := by rw [hk]; rfl
  have e9 : (r.k == 9) = false := by rw [hk]; rfl
  have hd : (cls r.k != cls r'.k) = false := by rw [hc]; simp
  clear h hc hk
  go_enter Try.func20, Try.ntmps20
  go_wp2_with fail
  go_quiet ((go_at_call 32; exact Calls.quiet_of_same ((class_any _ _).mono fun _ _ h => ⟨h.1, h.2.symm⟩)))
  have y0' : (w.drewN nq).cell? ⟨b, o, none⟩ = some (.int .i64 r.k) := y0
  have hb : Below w.heap.size w (w.drewN nq) := (Below.refl _ _).drewN' _
  clear y0 x0
  generalize w.drewN nq = W at *
  go_wp2
  go_ret
  exact ⟨rfl, hb⟩

set_option maxRecDepth 100000 in
set_option maxRecDepth 100000 in
set_option maxHeartbeats 4000000 in
theorem compare_k9 (w : World) (b o : Nat) (r : TR) (t : Tm) (b' o' : Nat) (r' : TR) (t' : Tm) (h : Two w b o r t b' o' r' t') (hc : cls r.k = cls r'.k) (hk : r.k = 9) :
    Calls Try.prog 20 #[.pointer (some ⟨b, o, none⟩), .pointer (some ⟨b', o', none⟩)] w (IntPost w (cmpS r.s r'.s)) := by
  have y0 := h.at1.c0
  have x0 := h.at2.c0
  have y5 := h.at1.c5
  have x5 := h.at2.c5
  have e1 : (r.k == 1) = false := by rw [hk]; rfl
  have e2 : (r.k == 2) = false := by rw [hk]; rfl
  have e3 : (r.k == 3) = false := by rw [hk]; rfl
  have e4 : (r.k == 4) = false := by rw [hk]; rfl
  have e5 : (r.k == 5) = false := by rw [hk]; rfl
  have e6 : (r.k == 6) = false := by rw [hk]; rfl
  have e8 : (r.k == 8) = false := by rw [hk]; rfl
  have e9 : (r.k == 9) = true := by rw [hk]; rfl
  have hd : (cls r.k != cls r'.k) = false := by rw [hc]; simp
  obtain ⟨R, hR⟩ : ∃ R, R = cmpS r.s r'.s := ⟨_, rfl⟩
  rw [← hR]
  have HR := Lib.hid hR
  clear hR
  clear h hc hk
  go_enter Try.func20, Try.ntmps20
  go_wp2_with fail
  go_quiet ((go_at_call 32; exact Calls.quiet_of_same ((class_any _ _).mono fun _ _ h => ⟨h.1, h.2.symm⟩)))
  have y0' : (w.drewN nq).cell? ⟨b, o, none⟩ = some (.int .i64 r.k) := y0
  have hb : Below w.heap.size w (w.drewN nq) := (Below.refl _ _).drewN' _
  have y5' : (w.drewN nq).cell? ⟨b, o + 5, none⟩ = some (.string r.s) := y5
  have x5' : (w.drewN nq).cell? ⟨b', o' + 5, none⟩ = some (.string r'.s) := x5
  clear y5 x5
  clear y0 x0
  generalize w.drewN nq = W at *
  go_wp2_with fail
  go_quiet ((go_at_call 36; exact Calls.quiet_of_same ((compareS _ _ _).mono fun _ _ h => ⟨h.1, h.2.symm⟩)))
  go_wp2
  go_ret
  exact ⟨by rw [HR.out]; rfl, hb.drewN' _⟩

set_option maxRecDepth 100000 in
theorem compare_any (t : Tm) : ∀ (w : World) (b o : Nat) (r : TR) (b' o' : Nat) (r' : TR) (t' : Tm), Two w b o r t b' o' r' t' → t.formB = true → t'.formB = true → Calls Try.prog 20 #[.pointer (some ⟨b, o, none⟩), .pointer (some ⟨b', o', none⟩)] w (IntPost w (Tm.cmpT t t')) := by
  induction t using Tm.ind with
  | h k n g l u s ks ih =>
    obtain ⟨t, ht⟩ : ∃ t, t = Tm.mk k n g l u s ks := ⟨_, rfl⟩
    have hks : t.args = ks := by rw [ht]; rfl
    rw [← hks] at ih
    rw [← ht]
    clear hks ht
    intro w b o r b' o' r' t' h hf hf'
    have kt := h.tv1.kind
    have kt' := h.tv2.kind
    by_cases hc : cls r.k = cls r'.k
    · have hc' : cls t.kind = cls t'.kind := by rw [kt, kt']; exact hc
      obtain ⟨ba, fka⟩ := Tm.form_bound hf
      obtain ⟨bb, fkb⟩ := Tm.form_bound hf'
      have ka := Tm.bound_kind ba
      have kb := Tm.bound_kind bb
      have hone := cls_one hc' ka kb
      have leaf : ¬ (t.kind = 6 ∨ t.kind = 8) → ¬ (t'.kind = 6 ∨ t'.kind = 8) → Tm.cmpT t t' = lex Od.sg t.leafKey t'.leafKey := fun h1 h2 => cmpT_leaf hc' (Tm.form_args hf h1) (Tm.form_args hf' h2)
      have nums : t.kind = 1 ∨ t.kind = 2 ∨ t.kind = 3 → Calls Try.prog 20 #[.pointer (some ⟨b, o, none⟩), .pointer (some ⟨b', o', none⟩)] w (IntPost w (Tm.cmpT t t')) := fun hk => by
        have hk' : t'.kind = 1 ∨ t'.kind = 2 ∨ t'.kind = 3 := by omega
        rw [leaf (by omega) (by omega)]
        rw [kt'] at hk'
        rcases hk with e | e | e
        · exact compare_k1 w b o r t b' o' r' t' h hc (by omega) ba bb hk'
        · exact compare_k2 w b o r t b' o' r' t' h hc (by omega) ba bb hk'
        · exact compare_k3 w b o r t b' o' r' t' h hc (by omega) ba bb hk'
      have args : ∀ w', Below w.heap.size w w' → Calls Try.prog 35 #[.slice r.B r.m r.d, .slice r'.B r'.m r'.d] w' (IntPost w' (cmpArgs t.args t'.args)) := fun w' hb =>
        compareArgs_of t.args ih t'.args fka fkb w' r.B r.m r.d (h.below hb).tv1.args r'.B r'.m r'.d (h.below hb).tv2.args
      rcases ka with e | e | e | e | e | e | e | e | e
      · exact nums (by omega)
      · exact nums (by omega)
      · exact nums (by omega)
      · rw [leaf (by omega) (by omega), leafKey_n (by omega), leafKey_n (by omega), h.tv1.num, h.tv2.num]
        rw [show lex Od.sg [r.n] [r'.n] = Od.sg r.n r'.n from andC_zero _]
        exact compare_k4 w b o r t b' o' r' t' h hc (by omega)
      · rw [leaf (by omega) (by omega), leafKey_n (by omega), leafKey_n (by omega), h.tv1.num, h.tv2.num]
        rw [show lex Od.sg [r.n] [r'.n] = Od.sg r.n r'.n from andC_zero _]
        exact compare_k5 w b o r t b' o' r' t' h hc (by omega)
      · rw [cmpT_node (by omega) (by omega)]
        exact compare_k6 w b o r t b' o' r' t' h hc (by omega) _ args
      · rw [leaf (by omega) (by omega), leafKey_o (by omega), leafKey_o (by omega)]
        exact compare_k7 w b o r t b' o' r' t' h hc (by omega)
      · rw [cmpT_node (by omega) (by omega)]
        exact compare_k8 w b o r t b' o' r' t' h hc (by omega) _ args
      · rw [leaf (by omega) (by omega), leafKey_s (by omega), leafKey_s (by omega), h.tv1.bytes, h.tv2.bytes, bytes_sg]
        exact compare_k9 w b o r t b' o' r' t' h hc (by omega)
    · rw [cmpT_cls (by rw [kt, kt']; exact hc), kt, kt']
      exact compare_cls w b o r t b' o' r' t' h hc
end Go.Proofs.Ytmcfokeibecopaa

namespace Go.Proofs.Ytmcfokeibecopaa
open Go.RowKit
open Od

/-- How two terms stand, by the program. -/
noncomputable def Tm.ordB (t t' : Tm) : Int := if t.mayB && t'.mayB then Tm.cmpT t t' else 0
set_option maxRecDepth 100000 in
theorem Tm.may_form {t : Tm} (h : t.mayB = true) : t.formB = true := by
  unfold Tm.mayB at h
  rw [Bool.and_eq_true] at h
  exact h.2
set_option maxRecDepth 100000 in
theorem Tm.ordB_tri (t t' : Tm) : Tri (Tm.ordB t t') := by
  unfold Tm.ordB
  split
  · exact Tm.cmpT_tri t t'
  · exact .inr (.inl rfl)

set_option maxRecDepth 100000 in
set_option maxHeartbeats 2000000 in
theorem cmp_term (w : World) (r : TR) (t : Tm) (h : TV w r t) (ho : t.Ok) (r' : TR) (t' : Tm) (h' : TV w r' t') (ho' : t'.Ok) :
    Calls Try.prog 8 #[.agg #[.int .i64 r.k, .int .i64 r.n, .bool r.g, .slice r.A r.ln r.lc, .int .u64 r.u, .string r.s, .slice r.B r.m r.d], .agg #[.int .i64 r'.k, .int .i64 r'.n, .bool r'.g, .slice r'.A r'.ln r'.lc, .int .u64 r'.u, .string r'.s, .slice r'.B r'.m r'.d]] w (IntPost w (Tm.ordB t t')) := by
  obtain ⟨R, hR⟩ : ∃ R, R = Tm.ordB t t' := ⟨_, rfl⟩
  rw [← hR]
  unfold Tm.ordB at hR
  have HR := Lib.hid hR
  clear hR
  have I := SmI.new h h'
  clear h h'
  have y0 := I.bx.at.c0; have y1 := I.bx.at.c1; have y2 := I.bx.at.c2; have y3 := I.bx.at.c3; have y4 := I.bx.at.c4; have y5 := I.bx.at.c5; have y6 := I.bx.at.c6
  go_enter Try.func8, Try.ntmps8
  go_wp2_with fail
  generalize (w.alloc (.cells #[.int .i64 r.k, .int .i64 r.n, .bool r.g, .slice r.A r.ln r.lc, .int .u64 r.u, .string r.s, .slice r.B r.m r.d] 28)).alloc (.cells #[.int .i64 r'.k, .int .i64 r'.n, .bool r'.g, .slice r'.A r'.ln r'.lc, .int .u64 r'.u, .string r'.s, .slice r'.B r'.m r'.d] 28) = W at *
  refine (mayTerm_any W r t I.tv ho).mono ?_
  cases hm : t.mayB with
  | false =>
    have fin := Lib.hid (show R = 0 by rw [HR.out, hm]; rfl)
    rintro e w1 ⟨rfl, hb1⟩
    go_wp2
    go_ret
    exact ⟨by rw [fin.out]; rfl, I.be.trans (hb1.mono I.be.size)⟩
  | true =>
    rintro e w1 ⟨rfl, hb1⟩
    have I1 := I.below hb1
    clear I y0 y1 y2 y3 y4 y5 y6
    have y0 := I1.ix.at.c0; have y1 := I1.ix.at.c1; have y2 := I1.ix.at.c2; have y3 := I1.ix.at.c3; have y4 := I1.ix.at.c4; have y5 := I1.ix.at.c5; have y6 := I1.ix.at.c6
    go_wp2_with fail
    refine (mayTerm_any w1 r' t' I1.tw ho').mono ?_
    cases hm' : t'.mayB with
    | false =>
      have fin := Lib.hid (show R = 0 by rw [HR.out, hm, hm']; rfl)
      rintro e w2 ⟨rfl, hb2⟩
      go_wp2
      go_ret
      exact ⟨by rw [fin.out]; rfl, I1.be.trans (hb2.mono I1.be.size)⟩
    | true =>
      have fin := Lib.hid (show R = Tm.cmpT t t' by rw [HR.out, hm, hm']; rfl)
      rintro e w2 ⟨rfl, hb2⟩
      have I2 := I1.below hb2
      clear I1 y0 y1 y2 y3 y4 y5 y6
      go_wp2_with fail
      refine (compare_any t w2 w.heap.size 0 r (w.heap.size + 1) 0 r' t' ⟨I2.bx.at, I2.ix.at, I2.tv, I2.tw⟩ (Tm.may_form hm) (Tm.may_form hm')).mono ?_
      rw [← fin.out]
      rintro e w3 ⟨rfl, hb3⟩
      go_wp2
      go_ret
      exact ⟨rfl, I2.be.trans (hb3.mono I2.be.size)⟩

set_option maxRecDepth 100000 in
set_option maxHeartbeats 2000000 in
theorem less_term (w : World) (r : TR) (t : Tm) (h : TV w r t) (ho : t.Ok) (r' : TR) (t' : Tm) (h' : TV w r' t') (ho' : t'.Ok) :
    Calls Try.prog 10 #[.agg #[.int .i64 r.k, .int .i64 r.n, .bool r.g, .slice r.A r.ln r.lc, .int .u64 r.u, .string r.s, .slice r.B r.m r.d], .agg #[.int .i64 r'.k, .int .i64 r'.n, .bool r'.g, .slice r'.A r'.ln r'.lc, .int .u64 r'.u, .string r'.s, .slice r'.B r'.m r'.d]] w fun e w' => e = .returned (.bool (decide (Tm.ordB t t' < 0))) ∧ Below w.heap.size w w' := by
  obtain ⟨q, hq⟩ : ∃ q, q = Tm.ordB t t' := ⟨_, rfl⟩
  rw [← hq]
  have HQ := Lib.hid hq
  clear hq
  have I := SmI.new h h'
  clear h h'
  have y0 := I.bx.at.c0; have y1 := I.bx.at.c1; have y2 := I.bx.at.c2; have y3 := I.bx.at.c3; have y4 := I.bx.at.c4; have y5 := I.bx.at.c5; have y6 := I.bx.at.c6; have x0 := I.ix.at.c0; have x1 := I.ix.at.c1; have x2 := I.ix.at.c2; have x3 := I.ix.at.c3; have x4 := I.ix.at.c4; have x5 := I.ix.at.c5; have x6 := I.ix.at.c6
  go_enter Try.func10, Try.ntmps10
  go_wp2_with fail
  generalize (w.alloc (.cells #[.int .i64 r.k, .int .i64 r.n, .bool r.g, .slice r.A r.ln r.lc, .int .u64 r.u, .string r.s, .slice r.B r.m r.d] 28)).alloc (.cells #[.int .i64 r'.k, .int .i64 r'.n, .bool r'.g, .slice r'.A r'.ln r'.lc, .int .u64 r'.u, .string r'.s, .slice r'.B r'.m r'.d] 28) = W at *
  refine (cmp_term W r t I.tv ho r' t' I.tw ho').mono ?_
  rw [← HQ.out]
  rintro e w1 ⟨rfl, hb1⟩
  go_wp2
  go_ret
  exact ⟨rfl, I.be.trans (hb1.mono I.be.size)⟩
end Go.Proofs.Ytmcfokeibecopaa

namespace Go.Proofs.Ytmcfokeibecopaa
open Go.RowKit
open Od

def t2I : Tm := .mk 1 2 false [] 0 ⟨#[]⟩ []
def tFl : Tm := .mk 3 0 false [] 4607182418800017408 ⟨#[]⟩ []
def tTup : Tm := .mk 6 0 false [] 0 ⟨#[]⟩ []
set_option maxRecDepth 100000 in
theorem intT_two : intT 2 = t2I := intT_small (by have := Lm.top_ge; omega) (by decide)
set_option maxRecDepth 100000 in
theorem t2I_ok : t2I.Ok := by simp [t2I, Tm.Ok, Tm.Oks, ByteArray.size]
set_option maxRecDepth 100000 in
theorem tFl_ok : tFl.Ok := by simp [tFl, Tm.Ok, Tm.Oks, ByteArray.size]
set_option maxRecDepth 100000 in
theorem tTup_ok : tTup.Ok := by simp [tTup, Tm.Ok, Tm.Oks, ByteArray.size]
set_option maxRecDepth 100000 in
theorem may_small {t : Tm} (h : t.wt ≤ 300) (hf : t.formB = true) : t.mayB = true := by
  rw [Tm.mayB, hf, decide_eq_true (show t.cap ≤ 300 by unfold Tm.cap; omega)]; rfl
set_option maxRecDepth 100000 in
theorem tOne_may : tOne.mayB = true := may_small (by simp [tOne, Tm.wt]) (by simp [tOne, Tm.formB, Tm.formsB, Tm.alikeB, Tm.ment, Tm.boundB, Tm.kind, Tm.num, Tm.args, Tm.mag, Tm.neg, Tm.bits, Tm.bytes])
set_option maxRecDepth 100000 in
theorem t2I_may : t2I.mayB = true := may_small (by simp [t2I, Tm.wt]) (by simp [t2I, Tm.formB, Tm.formsB, Tm.alikeB, Tm.ment, Tm.boundB, Tm.kind, Tm.num, Tm.args, Tm.mag, Tm.neg, Tm.bits, Tm.bytes])
set_option maxRecDepth 100000 in
theorem tTup_may : tTup.mayB = true := may_small (by simp [tTup, Tm.wt, Tm.wts]) (by simp [tTup, Tm.formB, Tm.formsB, Tm.alikeB, Tm.ment, Tm.boundB, Tm.kind, Tm.num, Tm.args, Tm.mag, Tm.neg, Tm.bits, Tm.bytes])
set_option maxRecDepth 100000 in
theorem tNil_may : tNil.mayB = true := may_small (by simp [tNil, Tm.wt]) (by simp [tNil, Tm.formB, Tm.formsB, Tm.alikeB, Tm.ment, Tm.boundB, Tm.kind, Tm.num, Tm.args, Tm.mag, Tm.neg, Tm.bits, Tm.bytes])
set_option maxRecDepth 100000 in
theorem clean_one : cleanI 4607182418800017408 = 4607182418800017408 := by decide
set_option maxRecDepth 100000 in
theorem tFl_may : tFl.mayB = true := may_small (by simp [tFl, Tm.wt]) (by simp [tFl, Tm.formB, Tm.formsB, Tm.alikeB, Tm.ment, Tm.boundB, Tm.kind, Tm.num, Tm.args, Tm.mag, Tm.neg, Tm.bits, Tm.bytes, clean_one])
set_option maxRecDepth 100000 in
theorem flr_one : Fl.flr 4607182418800017408 = 1 := by
  have hr : Fl.rg 4607182418800017408 = 4607182418800017408 := by decide
  have hn : Fl.ng 4607182418800017408 = false := by decide
  have hm : Fl.mt 4607182418800017408 = 2 ^ 52 := by decide
  have hp : Fl.pl 4607182418800017408 = Fl.K - 52 := by rw [Fl.K_eq]; decide
  have hv : Fl.val 4607182418800017408 = Fl.U := by
    unfold Fl.val
    rw [hm, hp, ← Nat.pow_add, Fl.U_def, show 52 + (Fl.K - 52) = Fl.K by have := Fl.K_eq; omega]
  have hU := Fl.U_pos
  unfold Fl.flr Fl.sv
  rw [hr, hn, hv]
  unfold Fl.sgnd
  simp only [Bool.false_eq_true, if_false]
  exact Int.ediv_self (by omega)
set_option maxRecDepth 100000 in
theorem cmpNumZ_one (z : Int) : cmpNumZ z (4607182418800017408 : Int).toNat = if 1 < z then 1 else -1 := by
  have h2 : Fl.nanB (4607182418800017408 : Int).toNat = false := by decide
  unfold cmpNumZ
  rw [h2, show (4607182418800017408 : Int).toNat = 4607182418800017408 from rfl, flr_one]
  rfl
set_option maxRecDepth 100000 in
theorem ordB_may {t t' : Tm} (h : t.mayB = true) (h' : t'.mayB = true) : Tm.ordB t t' = Tm.cmpT t t' := by unfold Tm.ordB; rw [h, h']; rfl
set_option maxRecDepth 100000 in
theorem aw_of1 : Tm.ordB tOne tFl = -1 := by
  rw [ordB_may tOne_may tFl_may, cmpT_leaf (a := tOne) (b := tFl) rfl rfl rfl, leafKey_int (.inl rfl), leafKey_flt rfl, zkey_f]
  exact cmpNumZ_one 1
set_option maxRecDepth 100000 in
theorem aw_2f : Tm.ordB t2I tFl = 1 := by
  rw [ordB_may t2I_may tFl_may, cmpT_leaf (a := t2I) (b := tFl) rfl rfl rfl, leafKey_int (.inl rfl), leafKey_flt rfl, zkey_f]
  exact cmpNumZ_one 2
set_option maxRecDepth 100000 in
theorem aw_tn : Tm.ordB tTup tNil = -1 := by
  rw [ordB_may tTup_may tNil_may, cmpT_cls (by decide)]; rfl
set_option maxRecDepth 100000 in
theorem aw_12 : decide (Tm.ordB tOne t2I < 0) = true := by
  rw [ordB_may tOne_may t2I_may, cmpT_leaf (a := tOne) (b := t2I) rfl rfl rfl, leafKey_int (t := tOne) (.inl rfl), leafKey_int (t := t2I) (.inl rfl), zkey_z]; rfl
set_option maxRecDepth 100000 in
theorem aw_22 : decide (Tm.ordB t2I t2I < 0) = false := by
  rw [ordB_may t2I_may t2I_may, Tm.cmpT_self]; rfl
set_option maxRecDepth 100000 in
theorem aw_ff : Tm.ordB tFl tFl = 0 := by rw [ordB_may tFl_may tFl_may, Tm.cmpT_self]
set_option maxRecDepth 100000 in
theorem tNil_tv (w : World) : TV w (mkR 7 0 0 ⟨#[]⟩ none 0 0) tNil := TV.leaf (by omega) (by omega) (by omega) (by omega) (by omega) (by omega) (by decide)
set_option maxRecDepth 100000 in
theorem tTup_tv (w : World) : TV w (mkR 6 0 0 ⟨#[]⟩ none 0 0) tTup := TV.leaf (by omega) (by omega) (by omega) (by omega) (by omega) (by omega) (by decide)
set_option maxRecDepth 100000 in
theorem tFl_tv (w : World) : TV w (mkR 3 0 4607182418800017408 ⟨#[]⟩ none 0 0) tFl := TV.leaf (by omega) (by omega) (by omega) (by omega) (by omega) (by omega) (by decide)

set_option maxRecDepth 100000 in
set_option maxRecDepth 100000 in
set_option maxHeartbeats 4000000 in
theorem awake5 (w : World) : Calls Try.prog 6 #[] w fun e w' => e = .returned (.bool true) ∧ Below w.heap.size w w' := by
  go_enter Try.func6, Try.ntmps6
  go_upto_region 2 with fail
  have E0 : BxI w (mkR 3 0 4607182418800017408 ⟨#[]⟩ none 0 0) tFl (w.alloc (.cells #[.int .i64 3, .int .i64 0, .bool false, .slice none 0 0, .int .u64 4607182418800017408, .string ⟨#[]⟩, .slice none 0 0] 28)) := BxI.new (tFl_tv w)
  generalize w.alloc (.cells #[.int .i64 3, .int .i64 0, .bool false, .slice none 0 0, .int .u64 4607182418800017408, .string ⟨#[]⟩, .slice none 0 0] 28) = W at *
  have E := E0.drew
  obtain ⟨y0, y1, y2, y3, y4, y5, y6⟩ : W.cell? ⟨w.heap.size, 0, none⟩ = some (.int .i64 3) ∧ W.cell? ⟨w.heap.size, 1, none⟩ = some (.int .i64 0) ∧ W.cell? ⟨w.heap.size, 2, none⟩ = some (.bool false) ∧ W.cell? ⟨w.heap.size, 3, none⟩ = some (.slice none 0 0) ∧ W.cell? ⟨w.heap.size, 4, none⟩ = some (.int .u64 4607182418800017408) ∧ W.cell? ⟨w.heap.size, 5, none⟩ = some (.string ⟨#[]⟩) ∧ W.cell? ⟨w.heap.size, 6, none⟩ = some (.slice none 0 0) := ⟨E0.bx.at.c0, E0.bx.at.c1, E0.bx.at.c2, E0.bx.at.c3, E0.bx.at.c4, E0.bx.at.c5, E0.bx.at.c6⟩
  clear E0
  have k1 : True := trivial
  have k2 : True := trivial
  have k3 : True := trivial
  have k4 : True := trivial
  have k5 : True := trivial
  have k6 : True := trivial
  have c1 : True := trivial
  have c2 : True := trivial
  have c3 : True := trivial
  have c4 : True := trivial
  have c5 : True := trivial
  have c6 : True := trivial
  go_region_held3 (fun w' => w'.cell? ⟨w.heap.size, 0, none⟩ = some (.int .i64 3) ∧ w'.cell? ⟨w.heap.size, 1, none⟩ = some (.int .i64 0) ∧ w'.cell? ⟨w.heap.size, 2, none⟩ = some (.bool false) ∧ w'.cell? ⟨w.heap.size, 3, none⟩ = some (.slice none 0 0) ∧ w'.cell? ⟨w.heap.size, 4, none⟩ = some (.int .u64 4607182418800017408) ∧ w'.cell? ⟨w.heap.size, 5, none⟩ = some (.string ⟨#[]⟩) ∧ w'.cell? ⟨w.heap.size, 6, none⟩ = some (.slice none 0 0))
    (first | exact ⟨y0, y1, y2, y3, y4, y5, y6⟩ | exact ⟨E.bx.at.c0, E.bx.at.c1, E.bx.at.c2, E.bx.at.c3, E.bx.at.c4, E.bx.at.c5, E.bx.at.c6⟩)
    (first
      | (go_at_call 16; clear k1; have E' := E; clear E; refine (int_any _ 1 (by omega) (by omega)).mono ?_; rw [intT_one]; rintro e v ⟨R1, rfl, T10, hv⟩; have E := E'.below hv; clear E'; (try replace T1 := T1.bel hv); (try replace T2 := T2.bel hv); (try replace T3 := T3.bel hv); (try replace T4 := T4.bel hv); (try replace T5 := T5.bel hv); (try replace T6 := T6.bel hv); clear hv; have T1 := T10; clear T10)
      | (go_at_call 16; clear k2; have E' := E; clear E; refine (int_any _ 1 (by omega) (by omega)).mono ?_; rw [intT_one]; rintro e v ⟨R2, rfl, T20, hv⟩; have E := E'.below hv; clear E'; (try replace T1 := T1.bel hv); (try replace T2 := T2.bel hv); (try replace T3 := T3.bel hv); (try replace T4 := T4.bel hv); (try replace T5 := T5.bel hv); (try replace T6 := T6.bel hv); clear hv; have T2 := T20; clear T20)
      | (go_at_call 16; clear k3; have E' := E; clear E; refine (int_any _ 2 (by omega) (by omega)).mono ?_; rw [intT_two]; rintro e v ⟨R3, rfl, T30, hv⟩; have E := E'.below hv; clear E'; (try replace T1 := T1.bel hv); (try replace T2 := T2.bel hv); (try replace T3 := T3.bel hv); (try replace T4 := T4.bel hv); (try replace T5 := T5.bel hv); (try replace T6 := T6.bel hv); clear hv; have T3 := T30; clear T30)
      | (go_at_call 16; clear k4; have E' := E; clear E; refine (int_any _ 2 (by omega) (by omega)).mono ?_; rw [intT_two]; rintro e v ⟨R4, rfl, T40, hv⟩; have E := E'.below hv; clear E'; (try replace T1 := T1.bel hv); (try replace T2 := T2.bel hv); (try replace T3 := T3.bel hv); (try replace T4 := T4.bel hv); (try replace T5 := T5.bel hv); (try replace T6 := T6.bel hv); clear hv; have T4 := T40; clear T40)
      | (go_at_call 16; clear k5; have E' := E; clear E; refine (int_any _ 2 (by omega) (by omega)).mono ?_; rw [intT_two]; rintro e v ⟨R5, rfl, T50, hv⟩; have E := E'.below hv; clear E'; (try replace T1 := T1.bel hv); (try replace T2 := T2.bel hv); (try replace T3 := T3.bel hv); (try replace T4 := T4.bel hv); (try replace T5 := T5.bel hv); (try replace T6 := T6.bel hv); clear hv; have T5 := T50; clear T50)
      | (go_at_call 16; clear k6; have E' := E; clear E; refine (int_any _ 2 (by omega) (by omega)).mono ?_; rw [intT_two]; rintro e v ⟨R6, rfl, T60, hv⟩; have E := E'.below hv; clear E'; (try replace T1 := T1.bel hv); (try replace T2 := T2.bel hv); (try replace T3 := T3.bel hv); (try replace T4 := T4.bel hv); (try replace T5 := T5.bel hv); (try replace T6 := T6.bel hv); clear hv; have T6 := T60; clear T60)
      | (go_at_call 8; clear c1; have E' := E; clear E; refine (cmp_term _ R1 tOne (by exact T1) tOne_ok (mkR 3 0 4607182418800017408 ⟨#[]⟩ none 0 0) tFl (by exact E'.tv) tFl_ok).mono ?_; rw [aw_of1]; rintro e v ⟨rfl, hv⟩; have E := E'.below hv; clear E'; (try replace T1 := T1.bel hv); (try replace T2 := T2.bel hv); (try replace T3 := T3.bel hv); (try replace T4 := T4.bel hv); (try replace T5 := T5.bel hv); (try replace T6 := T6.bel hv); clear hv)
      | (go_at_call 8; clear c2; have E' := E; clear E; refine (cmp_term _ (mkR 6 0 0 ⟨#[]⟩ none 0 0) tTup (by exact tTup_tv _) tTup_ok (mkR 7 0 0 ⟨#[]⟩ none 0 0) tNil (by exact tNil_tv _) tNil_ok).mono ?_; rw [aw_tn]; rintro e v ⟨rfl, hv⟩; have E := E'.below hv; clear E'; (try replace T1 := T1.bel hv); (try replace T2 := T2.bel hv); (try replace T3 := T3.bel hv); (try replace T4 := T4.bel hv); (try replace T5 := T5.bel hv); (try replace T6 := T6.bel hv); clear hv)
      | (go_at_call 10; clear c3; have E' := E; clear E; refine (less_term _ R2 tOne (by exact T2) tOne_ok R3 t2I (by exact T3) t2I_ok).mono ?_; rw [aw_12]; rintro e v ⟨rfl, hv⟩; have E := E'.below hv; clear E'; (try replace T1 := T1.bel hv); (try replace T2 := T2.bel hv); (try replace T3 := T3.bel hv); (try replace T4 := T4.bel hv); (try replace T5 := T5.bel hv); (try replace T6 := T6.bel hv); clear hv)
      | (go_at_call 10; clear c4; have E' := E; clear E; refine (less_term _ R4 t2I (by exact T4) t2I_ok R5 t2I (by exact T5) t2I_ok).mono ?_; rw [aw_22]; rintro e v ⟨rfl, hv⟩; have E := E'.below hv; clear E'; (try replace T1 := T1.bel hv); (try replace T2 := T2.bel hv); (try replace T3 := T3.bel hv); (try replace T4 := T4.bel hv); (try replace T5 := T5.bel hv); (try replace T6 := T6.bel hv); clear hv)
      | (go_at_call 8; clear c5; have E' := E; clear E; refine (cmp_term _ (mkR 3 0 4607182418800017408 ⟨#[]⟩ none 0 0) tFl (by exact E'.tv) tFl_ok (mkR 3 0 4607182418800017408 ⟨#[]⟩ none 0 0) tFl (by exact E'.tv) tFl_ok).mono ?_; rw [aw_ff]; rintro e v ⟨rfl, hv⟩; have E := E'.below hv; clear E'; (try replace T1 := T1.bel hv); (try replace T2 := T2.bel hv); (try replace T3 := T3.bel hv); (try replace T4 := T4.bel hv); (try replace T5 := T5.bel hv); (try replace T6 := T6.bel hv); clear hv)
      | (go_at_call 8; clear c6; have E' := E; clear E; refine (cmp_term _ R6 t2I (by exact T6) t2I_ok (mkR 3 0 4607182418800017408 ⟨#[]⟩ none 0 0) tFl (by exact E'.tv) tFl_ok).mono ?_; rw [aw_2f]; rintro e v ⟨rfl, hv⟩; have E := E'.below hv; clear E'; (try replace T1 := T1.bel hv); (try replace T2 := T2.bel hv); (try replace T3 := T3.bel hv); (try replace T4 := T4.bel hv); (try replace T5 := T5.bel hv); (try replace T6 := T6.bel hv); clear hv))
  go_wp2
  go_ret
  exact ⟨rfl, E.be⟩
end Go.Proofs.Ytmcfokeibecopaa

namespace Go.Proofs.Ytmcfokeibecopaa
open Go.RowKit Go.ChangeShapes Go.WideShapes
open Od

set_option maxRecDepth 100000 in
theorem intT_kind {z : Int} (ht : z.natAbs < Lm.top) : (intT z).kind = 1 ∨ (intT z).kind = 2 := by
  cases h : smallB z with
  | true => rw [intT_small ht h]; exact .inl rfl
  | false => rw [intT_big ht h]; exact .inr rfl
set_option maxRecDepth 100000 in
theorem intT_zOf {z : Int} (ht : z.natAbs < Lm.top) : (intT z).zOf = z := by
  cases h : smallB z with
  | true => rw [intT_small ht h]; rfl
  | false =>
    rw [intT_big ht h]
    exact sgn_digits z
set_option maxRecDepth 100000 in
theorem intT_args {z : Int} (ht : z.natAbs < Lm.top) : (intT z).args = [] := by
  cases h : smallB z with
  | true => rw [intT_small ht h]; rfl
  | false => rw [intT_big ht h]; rfl
set_option maxRecDepth 100000 in
theorem intT_ok {z : Int} (ht : z.natAbs < Lm.top) : (intT z).Ok := by
  have := (Lm.top_iff _).2 ht
  exact ofT_ok (by omega)
set_option maxRecDepth 100000 in
theorem top64 {z : Int} (h1 : -9223372036854775808 ≤ z) (h2 : z ≤ 9223372036854775807) : z.natAbs < Lm.top := by have := Lm.top_ge; omega
set_option maxRecDepth 100000 in
theorem intT_may {z : Int} (ht : z.natAbs < Lm.top) : (intT z).mayB = true := ofT_may (may_digits z ht)
set_option maxRecDepth 100000 in
theorem cmpT_int {a b : Int} (ha : a.natAbs < Lm.top) (hb : b.natAbs < Lm.top) : Tm.cmpT (intT a) (intT b) = Od.sg a b := by
  have c : cls (intT a).kind = cls (intT b).kind := by rcases intT_kind ha with e | e <;> rcases intT_kind hb with e' | e' <;> rw [e, e'] <;> rfl
  rw [cmpT_leaf c (intT_args ha) (intT_args hb), leafKey_int (intT_kind ha), leafKey_int (intT_kind hb), zkey_z, intT_zOf ha, intT_zOf hb]
  rfl
/-- Numbers as a list. -/
def numL (zs : List Int) : Tm := listT (zs.map intT)
set_option maxRecDepth 100000 in
theorem numL_cons (z : Int) (zs : List Int) : numL (z :: zs) = .mk 8 0 false [] 0 ⟨#[]⟩ [intT z, numL zs] := rfl
set_option maxRecDepth 100000 in
theorem numL_ok : ∀ {zs : List Int}, (∀ z ∈ zs, z.natAbs < Lm.top) → (numL zs).Ok
  | [], _ => tNil_ok
  | z :: zs, h => by
    rw [numL_cons, Tm.ok_mk]
    refine ⟨by simp, by simp [ByteArray.size], fun t ht => ?_⟩
    simp at ht
    rcases ht with rfl | rfl
    · exact intT_ok (h z (by simp))
    · exact numL_ok fun y hy => h y (by simp [hy])
set_option maxRecDepth 100000 in
theorem cmpT_list : ∀ {xs ys : List Int}, (∀ z ∈ xs, z.natAbs < Lm.top) → (∀ z ∈ ys, z.natAbs < Lm.top) → Tm.cmpT (numL xs) (numL ys) = lex Od.sg xs ys
  | [], [], _, _ => Tm.cmpT_self _
  | [], y :: ys, _, _ => cmpT_cls (a := numL []) (b := numL (y :: ys)) (show cls 7 ≠ cls 8 by decide)
  | x :: xs, [], _, _ => cmpT_cls (a := numL (x :: xs)) (b := numL []) (show cls 8 ≠ cls 7 by decide)
  | x :: xs, y :: ys, hx, hy => by
    rw [numL_cons, numL_cons, cmpT_node (a := .mk 8 0 false [] 0 ⟨#[]⟩ [intT x, numL xs]) (b := .mk 8 0 false [] 0 ⟨#[]⟩ [intT y, numL ys]) rfl (.inr rfl)]
    unfold cmpArgs
    simp only [Tm.args, List.length_cons, List.length_nil, sg_self, lex]
    rw [cmpT_int (hx x (by simp)) (hy y (by simp)), cmpT_list (fun z hz => hx z (by simp [hz])) (fun z hz => hy z (by simp [hz])), andC_zero]
    rfl

/-- Integers in memory. -/
structure Ns (w : World) (A : Option Addr) (n : Nat) (zs : List Int) : Prop where
  len : zs.length = n
  le : n ≤ maxLen
  rng : ∀ z ∈ zs, -9223372036854775808 ≤ z ∧ z ≤ 9223372036854775807
  el : 0 < n → ∃ b o, A = some ⟨b, o, none⟩ ∧ b < w.heap.size ∧ ∀ (j : Nat) (z : Int), zs[j]? = some z → w.cell? ⟨b, o + j, none⟩ = some (.int .i64 z)
set_option maxRecDepth 100000 in
theorem Ns.below {w w' : World} {A : Option Addr} {n : Nat} {zs : List Int} (h : Ns w A n zs) (hb : Below w.heap.size w w') : Ns w' A n zs := by
  refine ⟨h.len, h.le, h.rng, fun hn => ?_⟩
  obtain ⟨b, o, e, hlt, hc⟩ := h.el hn
  exact ⟨b, o, e, Nat.lt_of_lt_of_le hlt hb.size, fun j z ej => (hb.cell (p := ⟨b, o + j, none⟩) hlt).trans (hc j z ej)⟩
set_option maxRecDepth 100000 in
theorem Ns.get {w : World} {A : Option Addr} {n : Nat} {zs : List Int} (h : Ns w A n zs) (j : Nat) (hj : j < n) : ∃ b o z, A = some ⟨b, o, none⟩ ∧ b < w.heap.size ∧ zs[j]? = some z ∧ w.cell? ⟨b, o + j, none⟩ = some (.int .i64 z) ∧ -9223372036854775808 ≤ z ∧ z ≤ 9223372036854775807 := by
  obtain ⟨b, o, e, hlt, hc⟩ := h.el (by omega)
  have hg : zs[j]? = some (zs[j]'(by rw [h.len]; exact hj)) := List.getElem?_eq_getElem (by rw [h.len]; exact hj)
  have hr := h.rng _ (List.mem_of_getElem? hg)
  exact ⟨b, o, _, e, hlt, hg, hc j _ hg, hr.1, hr.2⟩
set_option maxRecDepth 100000 in
theorem open_ns {H : Type} {enc : TypeId × Value → H} {W : World} {v : Value} {d : DataW H} {p : List MemPlace}
    (hv : ∃ a n c, v = .slice a n c) (h : DataW.Trod enc Try.prog W 0 (fun _ => true) true 81 v d p) :
    ∃ (A : Option Addr) (n c : Nat) (zs : List Int), v = .slice A n c ∧ Ns W A n zs := by
  obtain ⟨a, n, c, rfl⟩ := hv
  obtain ⟨fuel, hf⟩ := h
  have hf' : DataW.trod enc Try.prog W 0 (fun _ => true) true fuel 81 [.slice a n c] = some (d, p) := by simpa [Value.cells] using hf
  rcases open_ints Try.underlying81 Try.underlying3 (by kernel_rfl) hf' with ⟨e1, _⟩ | ⟨a', len, cap, zs, e1, _, hl, hm, hz, _, hcell, hwz⟩
  · simp only [List.cons.injEq, and_true] at e1
    cases e1
    exact ⟨none, 0, 0, [], rfl, rfl, Nat.zero_le _, by simp, fun h => absurd h (by omega)⟩
  · simp only [List.cons.injEq, and_true] at e1
    cases e1
    simp only [if_true] at hz
    refine ⟨some a', n, c, zs.take n, rfl, ?_, Nat.le_trans hl hm, fun z hz' => ?_, fun hn => ?_⟩
    · rw [List.length_take]; omega
    · have := hwz z (List.mem_of_mem_take hz')
      simp [Lit.wf, IntKind.min, IntKind.max, IntKind.signed, IntKind.bits] at this
      omega
    · have h0 := hcell 0 (by omega)
      have hspot : a'.spot = none := by
        have := World.cell?_spot h0
        simpa [Addr.add] using this
      obtain ⟨b, o, sp⟩ := a'
      simp only at hspot
      subst hspot
      refine ⟨b, o, rfl, ?_, fun j z e => ?_⟩
      · have := World.block_lt_of_cell? W _ h0
        rw [add_none] at this
        exact this
      · have hj : j < n := by
          have := (List.getElem?_eq_some_iff.1 e).1
          rw [List.length_take] at this
          omega
        rw [List.getElem?_take_of_lt hj] at e
        rw [← add_none, hcell j (by omega), List.getD_eq_getElem?_getD, e]
        rfl

set_option maxRecDepth 100000 in
theorem lim_box7 {w : World} {A : Option Addr} {n c : Nat} {l : List Nat} {g : Nat} {r : TR} (h : Lim w A n c l) (hx : Box7 w g r) (hn : 0 < n) (a : Addr) (e : A = some a) : a.block ≠ g := by
  intro hg
  obtain ⟨b, o, e', hlt, hc⟩ := h.2.2.2 hn
  rw [e] at e'
  cases e'
  simp only at hg
  subst hg
  have h0 := hc 0 hn
  rw [cell_of_row w b _ _ _ (0, 0) hx, Nat.add_zero] at h0
  have ho : o < 7 := by
    have := (Array.getElem?_eq_some_iff.1 h0).1
    simpa using this
  have ho' : o = 0 ∨ o = 1 ∨ o = 2 ∨ o = 3 ∨ o = 4 ∨ o = 5 ∨ o = 6 := by omega
  rcases ho' with rfl | rfl | rfl | rfl | rfl | rfl | rfl <;> simp at h0
set_option maxRecDepth 100000 in
/-- A number's term lies beside two variables. -/
theorem TVS.num {w : World} {R : TR} {t : Tm} {p q : Nat} {r r' : TR} (h : TV w R t) (ha : t.args = []) (hp : Box7 w p r) (hq : Box7 w q r') : TVS (fun b => b ≠ p ∧ b ≠ q) w R t :=
  TVS.leafy h (fun hn a e => ⟨lim_box7 h.flat.lim hp hn a e, lim_box7 h.flat.lim hq hn a e⟩) (by rw [← h.len, ha]; rfl)

end Go.Proofs.Ytmcfokeibecopaa

namespace Go.Proofs.Ytmcfokeibecopaa
open Go.RowKit
open Od

set_option maxRecDepth 100000 in
theorem samesB_get : ∀ {ts us : List Tm} {j : Nat} {t u : Tm}, Tm.samesB ts us = true → ts[j]? = some t → us[j]? = some u → Tm.sameB t u = true
  | [], _, _, _, _, _, h, _ => by simp at h
  | _ :: _, [], _, _, _, h, _, _ => by simp [Tm.samesB] at h
  | a :: r, b :: s, 0, t, u, h, h1, h2 => by
    simp at h1 h2
    subst h1 h2
    rw [Tm.samesB, Bool.and_eq_true] at h
    exact h.1
  | a :: r, b :: s, j + 1, t, u, h, h1, h2 => by
    simp at h1 h2
    rw [Tm.samesB, Bool.and_eq_true] at h
    exact samesB_get h.2 h1 h2
set_option maxRecDepth 100000 in
theorem Tm.sameB_one (t : Tm) : ∀ t' : Tm, t.formB = true → t'.formB = true → Tm.sameB t t' = true → t = t' := by
  induction t using Tm.ind with
  | h k n g l u s ks ih =>
    obtain ⟨t, ht⟩ : ∃ t, t = Tm.mk k n g l u s ks := ⟨_, rfl⟩
    have hks : t.args = ks := by rw [ht]; rfl
    rw [← hks] at ih
    rw [← ht]
    clear hks ht
    intro t' hf hf' h
    rw [Tm.sameB_eq, ← Tm.form_ment hf, ← Tm.form_ment hf', Bool.and_eq_true] at h
    obtain ⟨ha, hs⟩ := h
    have hl := (Tm.alike_kind ha).2
    have hargs : t.args = t'.args := by
      refine List.ext_getElem? fun j => ?_
      by_cases hj : j < t.args.length
      · rw [List.getElem?_eq_getElem hj, List.getElem?_eq_getElem (hl ▸ hj)]
        have := samesB_get hs (List.getElem?_eq_getElem hj) (List.getElem?_eq_getElem (hl ▸ hj))
        rw [ih _ (List.getElem_mem hj) _ ((Tm.form_bound hf).2 _ (List.getElem_mem hj)) ((Tm.form_bound hf').2 _ (List.getElem_mem (hl ▸ hj))) this]
      · rw [List.getElem?_eq_none (by omega), List.getElem?_eq_none (by omega)]
    unfold Tm.alikeB at ha
    simp only [Bool.and_eq_true, beq_iff_eq, decide_eq_true_eq] at ha
    obtain ⟨⟨⟨⟨⟨h1, h2⟩, h3⟩, h4⟩, h5⟩, h6, _⟩ := ha
    have e : ∀ t : Tm, t = .mk t.kind t.num t.neg t.mag t.bits t.bytes t.args := fun t => by cases t; rfl
    exact (e t).trans (by rw [h1, h2, h3, h4, h5, h6, hargs]; exact (e t').symm)

set_option maxRecDepth 100000 in
theorem Tm.may_cap {t : Tm} (h : t.mayB = true) : t.cap ≤ 300 := by
  unfold Tm.mayB at h
  rw [Bool.and_eq_true] at h
  exact of_decide_eq_true h.1
/-- A head and a tail. -/
def consT (a b : Tm) : Tm := .mk 8 0 false [] 0 ⟨#[]⟩ [a, b]
set_option maxRecDepth 100000 in
theorem consT_ok {a b : Tm} (ha : a.Ok) (hb : b.Ok) : (consT a b).Ok := by
  unfold consT
  rw [Tm.ok_mk]
  refine ⟨by simp, by simp [ByteArray.size], fun t ht => ?_⟩
  simp at ht
  rcases ht with rfl | rfl
  · exact ha
  · exact hb
set_option maxRecDepth 100000 in
theorem consT_form (a b : Tm) : (consT a b).formB = (a.formB && b.formB) := by
  simp [consT, Tm.formB, Tm.formsB, Tm.alikeB, Tm.ment, Tm.boundB, Tm.kind, Tm.num, Tm.args, Tm.mag, Tm.neg, Tm.bits, Tm.bytes]
set_option maxRecDepth 100000 in
theorem consT_wt (a b : Tm) : (consT a b).wt = 1 + (a.wt + b.wt) := by simp [consT, Tm.wt, Tm.wts]
set_option maxRecDepth 100000 in
theorem wt_may {t : Tm} (h : t.mayB = true) : t.wt ≤ 300 := by
  have := Tm.may_cap h
  unfold Tm.cap at this
  omega
set_option maxRecDepth 100000 in
theorem consT_may {a b : Tm} (ha : a.formB = true) (hb : b.formB = true) : (consT a b).mayB = decide (1 + (a.wt + b.wt) ≤ 300) := by
  unfold Tm.mayB Tm.cap
  rw [consT_form, ha, hb, consT_wt]
  simp only [Bool.and_true]
  exact decide_eq_decide.2 (by omega)
set_option maxRecDepth 100000 in
theorem consT_cmp (c a b : Tm) : Tm.cmpT (consT c a) (consT c b) = Tm.cmpT a b := by
  rw [cmpT_node (a := consT c a) (b := consT c b) rfl (.inr rfl)]
  unfold cmpArgs
  show andC (Od.sg 2 2) (andC (Tm.cmpT c c) (andC (Tm.cmpT a b) 0)) = _
  rw [Tm.cmpT_self, andC_zero]
  rfl
set_option maxRecDepth 100000 in
/-- What OrderTotal asks of a pair: it stands as its tail does, or the longer list is too heavy. -/
theorem total_pair {a b c : Tm} (ha : a.mayB = true) (hb : b.mayB = true) (hc : c.mayB = true) (h : Tm.ordB (consT c a) (consT c b) ≠ Tm.ordB a b) : (listT [c, a, b, c]).mayB = false := by
  have fa := Tm.may_form ha
  have fb := Tm.may_form hb
  have fc := Tm.may_form hc
  cases h1 : (consT c a).mayB with
  | true =>
    cases h2 : (consT c b).mayB with
    | true => rw [ordB_may h1 h2, ordB_may ha hb, consT_cmp] at h; exact absurd rfl h
    | false =>
      rw [consT_may fc fb] at h2
      have := of_decide_eq_false h2
      unfold Tm.mayB
      rw [decide_eq_false, Bool.false_and]
      have hw : (listT [c, a, b, c]).wt = 1 + (c.wt + (1 + (a.wt + (1 + (b.wt + (1 + (c.wt + 1))))))) := by simp [listT, Tm.wt, Tm.wts, tNil]
      unfold Tm.cap
      omega
  | false =>
    rw [consT_may fc fa] at h1
    have := of_decide_eq_false h1
    unfold Tm.mayB
    rw [decide_eq_false, Bool.false_and]
    have hw : (listT [c, a, b, c]).wt = 1 + (c.wt + (1 + (a.wt + (1 + (b.wt + (1 + (c.wt + 1))))))) := by simp [listT, Tm.wt, Tm.wts, tNil]
    unfold Tm.cap
    omega
set_option maxRecDepth 100000 in
/-- A term that may be has no more parts than it weighs. -/
theorem size_wt (t : Tm) : t.formB = true → t.size ≤ t.wt := by
  induction t using Tm.ind with
  | h k n g l u s ks ih =>
    intro hf
    have hk := (Tm.form_bound hf).2
    have hsum : ∀ xs : List Tm, (∀ x ∈ xs, x ∈ ks) → Tm.size.sizes xs ≤ Tm.wts xs := by
      intro xs
      induction xs with
      | nil => intro _; simp [Tm.size.sizes, Tm.wts]
      | cons x r ihr =>
        intro hx
        have h1 := ih x (hx x (by simp)) (hk x (hx x (by simp)))
        have h2 := ihr fun y hy => hx y (by simp [hy])
        simp only [Tm.size.sizes, Tm.wts]
        omega
    by_cases h8 : k = 6 ∨ k = 8
    · have := hsum ks fun _ h => h
      rw [Tm.size, Tm.wt, if_neg (by omega), if_neg (by omega), if_pos h8]
      omega
    · have e : ks = [] := Tm.form_args (t := .mk k n g l u s ks) hf h8
      subst e
      have := Tm.wt_pos (.mk k n g l u s [])
      rw [Tm.size]
      simp only [Tm.size.sizes]
      omega
set_option maxRecDepth 100000 in
theorem listT_ok : ∀ {ts : List Tm}, (∀ t ∈ ts, t.Ok) → (listT ts).Ok
  | [], _ => tNil_ok
  | t :: r, h => consT_ok (h t (by simp)) (listT_ok fun x hx => h x (by simp [hx]))
end Go.Proofs.Ytmcfokeibecopaa
