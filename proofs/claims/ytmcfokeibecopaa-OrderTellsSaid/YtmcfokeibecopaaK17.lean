/-
  SORTING IN PLACE: stable, SortStableFunc.
  PACKAGE order: ascending.
  PACKAGE order: Sort.
  TWO TERMS AS THEY STAND: beehivelaw0.SameTerm, SameTerms, of any terms.
-/
import Derived.Test.YtmcfokeibecopaaK16
import Derived.Test.YtmcfokeibecopaaK13
import Derived.Deep.OwnRows
namespace Go.Proofs.Ytmcfokeibecopaa
open Go.RowKit
open Od
namespace Srt
section
variable {le : Nat → Nat → Prop} {d d' : Nat → Nat} {n s k : Nat}
/-- The first k blocks of 20 rise. -/
def Bk (le : Nat → Nat → Prop) (d : Nat → Nat) (k : Nat) : Prop := ∀ j, j < k → Up le d (j * 20) (j * 20 + 20)
set_option maxRecDepth 100000 in
theorem Bk.step (h : Bk le d k) (m : Mv (k * 20) (k * 20 + 20) d d') (u : Up le d' (k * 20) (k * 20 + 20)) : Bk le d' (k + 1) := by
  intro j hj
  by_cases e : j = k
  · subst e; exact u
  · intro x y h1 h2 h3
    rw [m.out (.inl (by omega)), m.out (.inl (by omega))]
    exact h j (by omega) x y h1 h2 h3
set_option maxRecDepth 100000 in
theorem Bk.last (h : Bk le d k) (hn : n < k * 20 + 20) (m : Mv (k * 20) n d d') (u : Up le d' (k * 20) n) : Bs le d' n 20 := by
  intro j x y h1 h2 h3
  by_cases e : j < k
  · rw [m.out (.inl (by omega)), m.out (.inl (by omega))]
    exact h j e x y h1 h2 (by omega)
  · exact u x y (by omega) h2 (by omega)
/-- While blocks are merged two by two: k pairs are done. -/
structure Mg (le : Nat → Nat → Prop) (d : Nat → Nat) (n s k : Nat) : Prop where
  lo : ∀ j, j < k → Up le d (j * (2 * s)) (j * (2 * s) + 2 * s)
  hi : ∀ j, 2 * k ≤ j → Up le d (j * s) (min (j * s + s) n)
set_option maxRecDepth 100000 in
theorem Mg.start (h : Bs le d n s) : Mg le d n s 0 := ⟨fun j hj => absurd hj (by omega), fun j _ => h j⟩
set_option maxRecDepth 100000 in
theorem two_mul' (k s : Nat) : 2 * k * s = k * (2 * s) := by rw [Nat.mul_comm 2 k, Nat.mul_assoc]
set_option maxRecDepth 100000 in
theorem Mg.left (h : Mg le d n s k) : Up le d (k * (2 * s)) (min (k * (2 * s) + s) n) := by
  have := h.hi (2 * k) (Nat.le_refl _)
  rw [two_mul'] at this
  exact this
set_option maxRecDepth 100000 in
theorem Mg.right (h : Mg le d n s k) : Up le d (k * (2 * s) + s) (min (k * (2 * s) + 2 * s) n) := by
  have := h.hi (2 * k + 1) (by omega)
  rw [Nat.add_mul, Nat.one_mul, two_mul'] at this
  rw [show k * (2 * s) + 2 * s = k * (2 * s) + s + s by omega]
  exact this
set_option maxRecDepth 100000 in
theorem mul_le' {j k s : Nat} (h : j < k) : j * (2 * s) + 2 * s ≤ k * (2 * s) := by
  have : (j + 1) * (2 * s) ≤ k * (2 * s) := Nat.mul_le_mul_right _ h
  rw [Nat.add_mul, Nat.one_mul] at this
  exact this
set_option maxRecDepth 100000 in
theorem Mg.step (h : Mg le d n s k) (m : Mv (k * (2 * s)) (k * (2 * s) + 2 * s) d d') (u : Up le d' (k * (2 * s)) (k * (2 * s) + 2 * s)) : Mg le d' n s (k + 1) := by
  constructor
  · intro j hj
    by_cases e : j = k
    · subst e; exact u
    · have hl := mul_le' (s := s) (show j < k by omega)
      intro x y h1 h2 h3
      rw [m.out (.inl (by omega)), m.out (.inl (by omega))]
      exact h.lo j (by omega) x y h1 h2 h3
  · intro j hj x y h1 h2 h3
    have hl : (2 * (k + 1)) * s ≤ j * s := Nat.mul_le_mul_right _ hj
    rw [two_mul', Nat.add_mul, Nat.one_mul] at hl
    rw [m.out (.inr (by omega)), m.out (.inr (by omega))]
    exact h.hi j (by omega) x y h1 h2 h3
set_option maxRecDepth 100000 in
theorem Mg.last (h : Mg le d n s k) (hn : n < k * (2 * s) + 2 * s) (m : Mv (k * (2 * s)) n d d') (u : Up le d' (k * (2 * s)) n) : Bs le d' n (2 * s) := by
  intro j x y h1 h2 h3
  by_cases e : j < k
  · have hl := mul_le' (s := s) e
    rw [m.out (.inl (by omega)), m.out (.inl (by omega))]
    exact h.lo j e x y h1 h2 (by omega)
  · have hl : k * (2 * s) ≤ j * (2 * s) := Nat.mul_le_mul_right _ (by omega)
    exact u x y (by omega) h2 (by omega)
end
end Srt

set_option maxRecDepth 100000 in
set_option maxRecDepth 100000 in
set_option maxHeartbeats 4000000 in
theorem stable_any (w : World) (b o m g n : Nat) (hn : n ≤ 100000) (ts : List Tm) (S : SoT w b o m ts) (d : Nat → Nat) (W : World) (h : SoI w b o m g n d W) :
    Calls Try.prog 52 #[.slice (some ⟨g, 0, none⟩) n n, .int .i64 (n : Int), (.func (.func 20) #[] #[])] W (SmP w b o m g n ts 0 n d) := by
  have IA := Lib.hid (insertion_any w b o m g n hn ts S)
  have SA := Lib.hid (sym_any w b o m g n hn ts S (n + 1))
  go_enter Try.func52, Try.ntmps52
  go_wp2_with fail
  go_loopw [7, 8] (fun x y w' => ∃ (k a : Nat) (dc : Nat → Nat), Hid (a = k * 20) ∧ a ≤ n ∧ x = .int .i64 (a : Int) ∧ y = .int .i64 ((a : Int) + 20) ∧ Hid (Srt.Mv 0 n d dc) ∧ Hid (Srt.Bk (leI ts) dc k) ∧ SoI w b o m g n dc w') (fun x _ _ => n - (intOf x).toNat)
  case atStart => exact ⟨0, 0, d, Lib.hid rfl, Nat.zero_le _, rfl, rfl, Lib.hid (Srt.Mv.refl _ _ _), Lib.hid (fun j hj => absurd hj (by omega)), h⟩
  case round =>
    clear h
    obtain ⟨k, a, dc, ha, han, rfl, rfl, hmv, hbk, J⟩ := hrel
    by_cases hb : a + 20 ≤ n
    · have hd1 : decide ((a : Int) + 20 ≤ (n : Int)) = true := decide_eq_true (by omega)
      have HE := Lib.hid (show (a : Int) + 20 = ((a + 20 : Nat) : Int) by omega)
      go_wp2_with fail
      rw [HE.out]
      refine (IA.out a (a + 20) (by omega) hb dc wr J).mono ?_
      rw [← HE.out]
      rintro _ v ⟨rfl, d1, J2, m1, u1⟩
      have hst := Lib.hid (show Srt.Bk (leI ts) d1 (k + 1) from hbk.out.step (by rw [← ha.out]; exact m1) (by rw [← ha.out]; exact u1))
      have hm2 := Lib.hid (hmv.out.trans (m1.mono (Nat.zero_le _) hb))
      clear m1 u1
      go_wp2_with fail
      exact ⟨⟨k + 1, a + 20, d1, Lib.hid (by rw [ha.out]; omega), hb, by go_num, by go_num, hm2, hst, J2⟩, by simp [intOf]; omega⟩
    · have hd1 : decide ((a : Int) + 20 ≤ (n : Int)) = false := decide_eq_false (by omega)
      go_wp2_with fail
      refine (IA.out a n han (Nat.le_refl _) dc wr J).mono ?_
      rintro _ v ⟨rfl, d1, J2, m1, u1⟩
      have hbs := Lib.hid (show Srt.Bs (leI ts) d1 n 20 from hbk.out.last (by rw [← ha.out]; omega) (by rw [← ha.out]; exact m1) (by rw [← ha.out]; exact u1))
      have hm2 := Lib.hid (hmv.out.trans (m1.mono (Nat.zero_le _) (Nat.le_refl _)))
      clear m1 u1 J hmv hbk IA
      go_wp2_with fail
      go_loopw [6, 7, 8] (fun x _ _ w' => ∃ (s : Nat) (dc : Nat → Nat), 20 ≤ s ∧ s ≤ 200000 ∧ x = .int .i64 (s : Int) ∧ Hid (Srt.Mv 0 n d dc) ∧ Hid (Srt.Bs (leI ts) dc n s) ∧ SoI w b o m g n dc w') (fun x _ _ _ => n - (intOf x).toNat)
      case atStart => exact ⟨20, d1, Nat.le_refl _, by omega, rfl, hm2, hbs, J2⟩
      case round =>
        clear J2 hm2 hbs
        obtain ⟨s, dd, hs1, hs2, rfl, hmv, hbs, J⟩ := hrel
        by_cases hsn : s < n
        · have hd2 : decide ((s : Int) < (n : Int)) = true := decide_eq_true (by omega)
          have hmg := Lib.hid (Srt.Mg.start hbs.out)
          clear hbs
          go_wp2_with fail
          go_loopw [7, 8] (fun x y w' => ∃ (k a : Nat) (dc : Nat → Nat), Hid (a = k * (2 * s)) ∧ a ≤ n ∧ x = .int .i64 (a : Int) ∧ y = .int .i64 ((a : Int) + 2 * (s : Int)) ∧ Hid (Srt.Mv 0 n d dc) ∧ Hid (Srt.Mg (leI ts) dc n s k) ∧ SoI w b o m g n dc w') (fun x _ _ => n - (intOf x).toNat)
          case atStart => exact ⟨0, 0, dd, Lib.hid (by omega), Nat.zero_le _, rfl, by go_num, hmv, hmg, J⟩
          case round =>
            clear J hmv hmg
            obtain ⟨k2, c, dc, hc, hcn, rfl, rfl, hmv, hmg, J⟩ := hrel
            by_cases hb2 : c + 2 * s ≤ n
            · have hd3 : decide ((c : Int) + 2 * (s : Int) ≤ (n : Int)) = true := decide_eq_true (by omega)
              have HE := Lib.hid (show (c : Int) + 2 * (s : Int) = ((c + 2 * s : Nat) : Int) by omega)
              have HE2 := Lib.hid (show (c : Int) + (s : Int) = ((c + s : Nat) : Int) by omega)
              have ul := Lib.hid (show Srt.Up (leI ts) dc c (c + s) by
                have := hmg.out.left
                rw [← hc.out, Nat.min_eq_left (by omega)] at this
                exact this)
              have ur := Lib.hid (show Srt.Up (leI ts) dc (c + s) (c + 2 * s) by
                have := hmg.out.right
                rw [← hc.out, Nat.min_eq_left (by omega)] at this
                exact this)
              have hcall := SA.out c (c + s) (c + 2 * s) (by omega) (by omega) (by omega) hb2 dc wr J ul.out ur.out
              rw [← HE2.out, ← HE.out] at hcall
              have HC := Lib.hid hcall
              clear hcall
              go_wp2_with fail
              refine HC.out.mono ?_
              rintro _ v ⟨rfl, d2, J2, m1, u1⟩
              have hst := Lib.hid (show Srt.Mg (leI ts) d2 n s (k2 + 1) from hmg.out.step (by rw [← hc.out]; exact m1) (by rw [← hc.out]; exact u1))
              have hm2 := Lib.hid (hmv.out.trans (m1.mono (Nat.zero_le _) hb2))
              have hcc := Lib.hid (show c + 2 * s = (k2 + 1) * (2 * s) by rw [hc.out, Nat.add_mul, Nat.one_mul])
              clear m1 u1 HC ul ur J
              go_wp2_with fail
              exact ⟨⟨k2 + 1, c + 2 * s, d2, hcc, hb2, by go_num, by go_num, hm2, hst, J2⟩, by simp [intOf]; omega⟩
            · have hd3 : decide ((c : Int) + 2 * (s : Int) ≤ (n : Int)) = false := decide_eq_false (by omega)
              by_cases hms : c + s < n
              · have hd4 : decide ((c : Int) + (s : Int) < (n : Int)) = true := decide_eq_true (by omega)
                have HE2 := Lib.hid (show (c : Int) + (s : Int) = ((c + s : Nat) : Int) by omega)
                have ul := Lib.hid (show Srt.Up (leI ts) dc c (c + s) by
                  have := hmg.out.left
                  rw [← hc.out, Nat.min_eq_left (by omega)] at this
                  exact this)
                have ur := Lib.hid (show Srt.Up (leI ts) dc (c + s) n by
                  have := hmg.out.right
                  rw [← hc.out, Nat.min_eq_right (by omega)] at this
                  exact this)
                have hcall := SA.out c (c + s) n (by omega) (by omega) hms (Nat.le_refl _) dc wr J ul.out ur.out
                rw [← HE2.out] at hcall
                have HC := Lib.hid hcall
                clear hcall
                go_wp2_with fail
                refine HC.out.mono ?_
                rintro _ v ⟨rfl, d2, J2, m1, u1⟩
                have hst := Lib.hid (show Srt.Bs (leI ts) d2 n (2 * s) from hmg.out.last (by rw [← hc.out]; omega) (by rw [← hc.out]; exact m1) (by rw [← hc.out]; exact u1))
                have hm2 := Lib.hid (hmv.out.trans (m1.mono (Nat.zero_le _) (Nat.le_refl _)))
                clear m1 u1 HC ul ur J
                go_wp2_with fail
                exact ⟨⟨2 * s, d2, by omega, by omega, by go_num, hm2, hst, J2⟩, by simp [intOf]; omega⟩
              · have hd4 : decide ((c : Int) + (s : Int) < (n : Int)) = false := decide_eq_false (by omega)
                have ul := (show Srt.Up (leI ts) dc c n by
                  have := hmg.out.left
                  rw [← hc.out, Nat.min_eq_right (by omega)] at this
                  exact this)
                have hst := Lib.hid (show Srt.Bs (leI ts) dc n (2 * s) from hmg.out.last (by rw [← hc.out]; omega) (Srt.Mv.refl _ _ _) (by rw [← hc.out]; exact ul))
                clear ul
                go_wp2_with fail
                exact ⟨⟨2 * s, dc, by omega, by omega, by go_num, hmv, hst, J⟩, by simp [intOf]; omega⟩
        · have hd2 : decide ((s : Int) < (n : Int)) = false := decide_eq_false (by omega)
          have hup := hbs.out.whole (by omega)
          go_wp2
          go_end0
          exact ⟨rfl, dd, J, hmv.out, hup⟩

set_option maxRecDepth 100000 in
theorem sortStable_any (w : World) (b o m g n : Nat) (hn : n ≤ 100000) (ts : List Tm) (S : SoT w b o m ts) (d : Nat → Nat) (W : World) (h : SoI w b o m g n d W) :
    Calls Try.prog 29 #[.slice (some ⟨g, 0, none⟩) n n, (.func (.func 20) #[] #[])] W (SmP w b o m g n ts 0 n d) := by
  go_enter Try.func29, Try.ntmps29
  go_wp2_with fail
  refine (stable_any w b o m g n hn ts S d W h).mono ?_
  rintro _ v ⟨rfl, d2, J2, m1, u1⟩
  go_wp2
  go_end0
  exact ⟨rfl, d2, J2, m1, u1⟩
end Go.Proofs.Ytmcfokeibecopaa

namespace Go.Proofs.Ytmcfokeibecopaa
open Go.RowKit
open Od

set_option maxRecDepth 100000 in
theorem und_ptrs : Try.prog.underlying 41 = some (.slice 43) := by kernel_rfl
set_option maxRecDepth 100000 in
theorem info_ptr : (Try.prog.info? 43).map (fun i => (i.zero, i.size, i.bytes)) = some (some (.pointer none), 1, 8) := by kernel_rfl
set_option maxRecDepth 100000 in
theorem make_ptrs (n : Nat) (hn : n ≤ 100000) (w : World) :
    (Instr.makeSlice 41 (.int .i64 (n : Int)) (.int .i64 (n : Int))).run Try.prog w = .ok (.slice (some ⟨w.heap.size, 0, none⟩) n n) (w.alloc (.cells (madeCells #[.pointer none] n) 43)) :=
  run_make_row' _ _ (.pointer none) 8 und_ptrs info_ptr rfl .i64 .i64 n (by omega) (by omega) w

/-- While the row is filled: j are there. -/
structure FiI (w : World) (b o g n j : Nat) (W : World) : Prop where
  be : Below w.heap.size w W
  gb : w.heap.size ≤ g
  row : ∃ cs : Array Value, W.heap[g]? = some (.cells cs 43 (0, 0)) ∧ cs.size = n ∧ ∀ i, i < j → cs[i]? = some (ptr b o i)
set_option maxRecDepth 100000 in
theorem FiI.cell {w : World} {b o g n j : Nat} {W : World} (h : FiI w b o g n j W) {i : Nat} (hi : i < n) : ∃ v, W.cell? ⟨g, i, none⟩ = some v := by
  obtain ⟨cs, h1, h2, _⟩ := h.row
  exact ⟨cs[i]'(by omega), by rw [cell_of_row W g i cs _ (0, 0) h1]; exact Array.getElem?_eq_getElem (by omega)⟩
set_option maxRecDepth 100000 in
theorem FiI.frozen {w : World} {b o g n j : Nat} {W : World} (h : FiI w b o g n j W) (i : Nat) : W.frozen? ⟨g, i, none⟩ = false := by
  obtain ⟨cs, h1, _⟩ := h.row
  simp [World.frozen?, h1]
set_option maxRecDepth 100000 in
theorem FiI.step {w : World} {b o g n j : Nat} {W : World} (h : FiI w b o g n j W) (hj : j < n) : FiI w b o g n (j + 1) (W.setCell ⟨g, j, none⟩ (ptr b o j)) := by
  obtain ⟨cs, h1, h2, h3⟩ := h.row
  refine ⟨h.be.setCell (p := ⟨g, j, none⟩) h.gb _, h.gb, cs.setIfInBounds j (ptr b o j), ?_, by simp [h2], fun i hi => ?_⟩
  · simp [World.setCell, Array.getElem?_modify, h1]
  · simp only [Array.getElem?_setIfInBounds, h2]
    by_cases e : j = i
    · subst e; rw [if_pos rfl, if_pos hj]
    · rw [if_neg e]; exact h3 i (by omega)
set_option maxRecDepth 100000 in
theorem FiI.new (w : World) (b o n : Nat) : FiI w b o w.heap.size n 0 (w.alloc (.cells (madeCells #[.pointer none] n) 43)) :=
  ⟨(Below.refl _ _).alloc (Nat.le_refl _) _, Nat.le_refl _, madeCells #[.pointer none] n, heap_alloc_new w _, size_madeCells _ _, fun i hi => absurd hi (by omega)⟩
set_option maxRecDepth 100000 in
theorem FiI.done {w : World} {b o g n m : Nat} {W : World} (h : FiI w b o g n n W) (hm : n ≤ m) : SoI w b o m g n (fun x => x) W := by
  obtain ⟨cs, h1, h2, h3⟩ := h.row
  exact ⟨h.be, h.gb, ⟨cs, h1, h2, h3⟩, fun i hi => by omega⟩

/-- What ascending leaves. -/
def AsP (w : World) (b o m : Nat) (ts : List Tm) (e : Ending) (W' : World) : Prop :=
  ∃ (g : Nat) (d : Nat → Nat), e = .returned (.slice (some ⟨g, 0, none⟩) m m) ∧ SoI w b o m g m d W' ∧ Srt.Mv 0 m (fun x => x) d ∧ Srt.Up (leI ts) d 0 m
set_option maxRecDepth 100000 in
set_option maxRecDepth 100000 in
set_option maxHeartbeats 4000000 in
theorem ascending_any (w : World) (b o m c : Nat) (B : Option Addr) (hB : 0 < m → B = some ⟨b, o, none⟩) (ts : List Tm) (S : SoT w b o m ts) (hm : m ≤ 100000) :
    Calls Try.prog 18 #[.slice B m c] w (AsP w b o m ts) := by
  have hmk := make_ptrs m hm
  have J0 := FiI.new w b o m
  go_enter Try.func18, Try.ntmps18
  go_wp2_with fail
  obtain ⟨g, hg⟩ : ∃ g, g = w.heap.size := ⟨_, rfl⟩
  generalize w.alloc (.cells (madeCells #[.pointer none] m) 43) = W at *
  have J1 : FiI w b o g m 0 W := by rw [hg]; exact J0
  rw [← hg]
  clear J0 hg hmk
  go_loopw [10] (fun i w' => ∃ j : Nat, j ≤ m ∧ i = .int .i64 (j : Int) ∧ FiI w b o g m j w') (fun i _ => m - (intOf i).toNat)
  case atStart => exact ⟨0, Nat.zero_le _, rfl, J1⟩
  case round =>
    clear J1
    obtain ⟨j, hj, rfl, J⟩ := hrel
    by_cases hjm : j < m
    · have hd1 : decide ((j : Int) < (m : Int)) = true := decide_eq_true (by omega)
      have hBB := hB (by omega)
      subst hBB
      obtain ⟨v0, q0⟩ := J.cell hjm
      have f0 := J.frozen j
      have J2 := Lib.hid (J.step hjm)
      clear J
      go_wp2_with fail
      exact ⟨⟨j + 1, by omega, by go_num, by exact J2.out⟩, by simp [intOf]; omega⟩
    · have hd1 : decide ((j : Int) < (m : Int)) = false := decide_eq_false (by omega)
      have e : j = m := by omega
      subst e
      have J2 := J.done (m := j) (Nat.le_refl _)
      clear J
      go_wp2_with fail
      refine (sortStable_any w b o j g j hm ts S _ wr J2).mono ?_
      rintro _ v ⟨rfl, d2, J3, m1, u1⟩
      go_wp2
      go_ret
      exact ⟨g, d2, rfl, J3, m1, u1⟩
end Go.Proofs.Ytmcfokeibecopaa

namespace Go.Proofs.Ytmcfokeibecopaa
open Go.RowKit
open Od

set_option maxRecDepth 100000 in
theorem sizes_perm {xs ys : List Tm} (h : xs.Perm ys) : Tm.size.sizes xs = Tm.size.sizes ys := by
  induction h with
  | nil => rfl
  | cons x _ ih => simp only [Tm.size.sizes, ih]
  | swap x y l => simp only [Tm.size.sizes]; omega
  | trans _ _ h1 h2 => exact h1.trans h2
/-- The terms as they stand by d. -/
def byD (ts : List Tm) (m : Nat) (d : Nat → Nat) : List Tm := (List.range m).map fun i => at' ts (d i)
set_option maxRecDepth 100000 in
theorem byD_len (ts : List Tm) (m : Nat) (d : Nat → Nat) : (byD ts m d).length = m := by simp [byD]
set_option maxRecDepth 100000 in
theorem byD_get (ts : List Tm) {m i : Nat} (d : Nat → Nat) (h : i < m) : (byD ts m d)[i]? = some (at' ts (d i)) := by simp [byD, h]
set_option maxRecDepth 100000 in
theorem byD_id {ts : List Tm} {m : Nat} (h : ts.length = m) : byD ts m (fun x => x) = ts := by
  refine List.ext_getElem? fun i => ?_
  by_cases hi : i < m
  · rw [byD_get ts _ hi]
    unfold at'
    rw [List.getD_eq_getElem?_getD, List.getElem?_eq_getElem (by omega)]
    rfl
  · rw [List.getElem?_eq_none (by rw [byD_len]; omega), List.getElem?_eq_none (by omega)]
set_option maxRecDepth 100000 in
theorem byD_perm {ts : List Tm} {m : Nat} {d : Nat → Nat} (h : ts.length = m) (hm : Srt.Mv 0 m (fun x => x) d) : (byD ts m d).Perm ts := by
  have h1 := hm.perm.map (at' ts)
  rw [List.map_map, List.map_map] at h1
  have h2 : (byD ts m d).Perm (byD ts m fun x => x) := h1
  rw [byD_id h] at h2
  exact h2
set_option maxRecDepth 100000 in
theorem byD_rise {ts : List Tm} {m : Nat} {d : Nat → Nat} (hu : Srt.Up (leI ts) d 0 m) : Rise (byD ts m d) := by
  unfold Rise byD
  rw [List.pairwise_map]
  refine List.Pairwise.imp_of_mem (R := (· < ·)) ?_ List.pairwise_lt_range
  intro x y hx hy hlt
  simp only [List.mem_range] at hx hy
  exact hu x y (Nat.zero_le _) (by omega) hy

/-- While the sorted terms are laid into a new row: j are there. -/
structure RwI (w : World) (b o m g : Nat) (d : Nat → Nat) (ts : List Tm) (g2 j : Nat) (W : World) : Prop where
  be : Below w.heap.size w W
  ptrs : ∃ cs : Array Value, W.heap[g]? = some (.cells cs 43 (0, 0)) ∧ ∀ i, i < m → cs[i]? = some (ptr b o (d i))
  ne : g ≠ g2
  gb : w.heap.size ≤ g2
  row : ∃ (cs : Array Value) (V : Nat → TR), W.heap[g2]? = some (.cells cs 28 (0, 0)) ∧ cs.size = m * 7 ∧ (∀ i, i < j → ∀ k, k < 7 → cs[i * 7 + k]? = (V i).cells[k]?) ∧ ∀ i, i < j → TV w (V i) (at' ts (d i))
section
variable {w : World} {b o m g : Nat} {d : Nat → Nat} {ts : List Tm} {g2 j : Nat} {W : World}
set_option maxRecDepth 100000 in
theorem RwI.pc (h : RwI w b o m g d ts g2 j W) {i : Nat} (hi : i < m) : W.cell? ⟨g, i, none⟩ = some (ptr b o (d i)) := by
  obtain ⟨cs, h1, h2⟩ := h.ptrs
  rw [cell_of_row W g i cs _ (0, 0) h1]
  exact h2 i hi
set_option maxRecDepth 100000 in
theorem RwI.cell (h : RwI w b o m g d ts g2 j W) {x : Nat} (hx : x < m * 7) : ∃ v, W.cell? ⟨g2, x, none⟩ = some v := by
  obtain ⟨cs, V, h1, h2, _⟩ := h.row
  exact ⟨cs[x]'(by omega), by rw [cell_of_row W g2 x cs _ (0, 0) h1]; exact Array.getElem?_eq_getElem (by omega)⟩
set_option maxRecDepth 100000 in
theorem RwI.frozen (h : RwI w b o m g d ts g2 j W) (x : Nat) : W.frozen? ⟨g2, x, none⟩ = false := by
  obtain ⟨cs, V, h1, _⟩ := h.row
  simp [World.frozen?, h1]
set_option maxRecDepth 100000 in
theorem RwI.set (h : RwI w b o m g d ts g2 j W) {x : Nat} (hx : j * 7 ≤ x) (v : Value) : RwI w b o m g d ts g2 j (W.setCell ⟨g2, x, none⟩ v) := by
  obtain ⟨cs, V, h1, h2, h3, h4⟩ := h.row
  obtain ⟨ps, k1, k2⟩ := h.ptrs
  refine ⟨h.be.setCell (p := ⟨g2, x, none⟩) h.gb v, ⟨ps, (Below.heap_setCell W ⟨g2, x, none⟩ v g h.ne).trans k1, k2⟩, h.ne, h.gb, cs.setIfInBounds x v, V, ?_, by simp [h2], fun i hi k hk => ?_, h4⟩
  · simp [World.setCell, Array.getElem?_modify, h1]
  · rw [Array.getElem?_setIfInBounds_ne (by omega)]
    exact h3 i hi k hk
set_option maxRecDepth 100000 in
theorem RwI.put (h : RwI w b o m g d ts g2 j W) (r : TR) : RwI w b o m g d ts g2 j (put7o W g2 (j * 7) r) :=
  ((((((h.set (x := j * 7) (by omega) _).set (x := j * 7 + 1) (by omega) _).set (x := j * 7 + 2) (by omega) _).set (x := j * 7 + 3) (by omega) _).set (x := j * 7 + 4) (by omega) _).set (x := j * 7 + 5) (by omega) _).set (x := j * 7 + 6) (by omega) _
set_option maxRecDepth 100000 in
theorem RwI.step (h : RwI w b o m g d ts g2 j W) {R : TR} (hR : TV w R (at' ts (d j))) (h7 : At7 W g2 (j * 7) R) : RwI w b o m g d ts g2 (j + 1) W := by
  obtain ⟨cs, V, h1, h2, h3, h4⟩ := h.row
  refine ⟨h.be, h.ptrs, h.ne, h.gb, cs, fun i => if i < j then V i else R, h1, h2, fun i hi k hk => ?_, fun i hi => ?_⟩
  · by_cases hij : i < j
    · simp only [hij, if_true]; exact h3 i hij k hk
    · have : i = j := by omega
      subst this
      simp only [hij, if_false]
      have hc : ∀ k, W.cell? ⟨g2, i * 7 + k, none⟩ = cs[i * 7 + k]? := fun k => cell_of_row W g2 _ cs _ (0, 0) h1
      rw [← hc]
      have hk' : k = 0 ∨ k = 1 ∨ k = 2 ∨ k = 3 ∨ k = 4 ∨ k = 5 ∨ k = 6 := by omega
      rcases hk' with rfl | rfl | rfl | rfl | rfl | rfl | rfl
      · exact h7.c0
      · exact h7.c1
      · exact h7.c2
      · exact h7.c3
      · exact h7.c4
      · exact h7.c5
      · exact h7.c6
  · by_cases hij : i < j
    · simp only [hij, if_true]; exact h4 i hij
    · have : i = j := by omega
      subst this
      simp only [hij, if_false]
      exact hR
set_option maxRecDepth 100000 in
theorem RwI.all (h : RwI w b o m g d ts g2 m W) (hm : m ≤ 100000) : TVs W (some ⟨g2, 0, none⟩) m m (byD ts m d) := by
  obtain ⟨cs, V, h1, h2, h3, h4⟩ := h.row
  refine ⟨byD_len _ _ _, Nat.le_refl _, by unfold maxLen; omega, V, fun _ => ⟨g2, 0, rfl, (Array.getElem?_eq_some_iff.1 h1).1, fun i hi => At7.of fun k hk => ?_⟩, fun i t e => ?_⟩
  · rw [add_none, cell_of_row W g2 _ cs _ (0, 0) h1, Nat.zero_add]
    exact h3 i hi k hk
  · have hi : i < m := by
      have := (List.getElem?_eq_some_iff.1 e).1
      rw [byD_len] at this
      exact this
    rw [byD_get ts d hi] at e
    cases e
    exact (h4 i hi).bel h.be
end
/-- What a sorted row is. -/
def SrtOf (ts us : List Tm) : Prop := ((∀ t ∈ ts, t.mayB = true) → us.Perm ts ∧ Rise us) ∧ (¬ (∀ t ∈ ts, t.mayB = true) → us = [])
/-- What Sort leaves. -/
def StP (w : World) (ts : List Tm) (e : Ending) (w' : World) : Prop :=
  ∃ (us : List Tm) (B' : Option Addr) (m' d' : Nat), e = .returned (.slice B' m' d') ∧ TVSs (fun b => w.heap.size ≤ b) w' B' m' d' us ∧ Below w.heap.size w w' ∧ Hid (SrtOf ts us)

set_option maxRecDepth 100000 in
set_option maxRecDepth 100000 in
set_option maxHeartbeats 8000000 in
theorem sort_any (w : World) (B : Option Addr) (m c : Nat) (ts : List Tm) (hts : TVs w B m c ts) (hok : ∀ t ∈ ts, t.Ok) (hsz : Tm.size.sizes ts ≤ 10000) :
    Calls Try.prog 7 #[.slice B m c] w (StP w ts) := by
  have hlen := hts.len
  have hml := Tm.sizes_len ts
  have hm : m ≤ 10000 := by omega
  obtain ⟨b, o, hB⟩ : ∃ b o, 0 < m → B = some ⟨b, o, none⟩ := by
    by_cases h0 : 0 < m
    · obtain ⟨b, o, _, _, e, _⟩ := hts.get 0 h0
      exact ⟨b, o, fun _ => e⟩
    · exact ⟨0, 0, fun h => absurd h h0⟩
  have HT := Lib.hid hts
  have HO := Lib.hid hok
  clear hts hok
  go_enter Try.func7, Try.ntmps7
  go_wp2_with fail
  go_loopw [9] (fun i w' => ∃ j : Nat, j ≤ m ∧ i = .int .i64 (j : Int) ∧ Hid (∀ (x : Nat) (t : Tm), x < j → ts[x]? = some t → t.mayB = true) ∧ Below w.heap.size w w') (fun i _ => m - (intOf i).toNat)
  case atStart => exact ⟨0, Nat.zero_le _, rfl, Lib.hid (fun x t h => absurd h (by omega)), Below.refl _ _⟩
  case round =>
    obtain ⟨j, hj, rfl, hall, hb⟩ := hrel
    by_cases hjm : j < m
    · have hd1 : decide ((j : Int) < (m : Int)) = true := decide_eq_true (by omega)
      obtain ⟨b1, o1, r, t, e, hlt, h7, het, htv⟩ := (HT.out.below hb).get j hjm
      subst e
      have hmem := List.mem_of_getElem? het
      have y0 := h7.c0; have y1 := h7.c1; have y2 := h7.c2; have y3 := h7.c3; have y4 := h7.c4; have y5 := h7.c5; have y6 := h7.c6
      go_wp2_with fail
      refine (mayTerm_any wr r t htv (HO.out t hmem)).mono ?_
      cases hmt : t.mayB with
      | false =>
        have hno := Lib.hid (show SrtOf ts [] from ⟨fun h => absurd (h t hmem) (by rw [hmt]; decide), fun _ => rfl⟩)
        rintro _ v ⟨rfl, hv⟩
        clear y0 y1 y2 y3 y4 y5 y6 h7 htv
        go_wp2
        go_ret
        exact ⟨[], none, 0, 0, rfl, TVSs.nil _ _ _ _ (Nat.zero_le _), hb.trans (hv.mono hb.size), hno⟩
      | true =>
        have hst := Lib.hid (show ∀ (x : Nat) (t : Tm), x < j + 1 → ts[x]? = some t → t.mayB = true from fun x t' h1 h2 => by
          by_cases e : x = j
          · subst e
            rw [het] at h2
            cases h2
            exact hmt
          · exact hall.out x t' (by omega) h2)
        rintro _ v ⟨rfl, hv⟩
        clear y0 y1 y2 y3 y4 y5 y6 h7 htv
        go_wp2_with fail
        exact ⟨⟨j + 1, by omega, by go_num, hst, hb.trans (hv.mono hb.size)⟩, by simp [intOf]; omega⟩
    · have hd1 : decide ((j : Int) < (m : Int)) = false := decide_eq_false (by omega)
      have hmay : ∀ t ∈ ts, t.mayB = true := fun t ht => by
        obtain ⟨x, hx⟩ := List.getElem?_of_mem ht
        exact hall.out x t (by have := (List.getElem?_eq_some_iff.1 hx).1; omega) hx
      have HMAY := Lib.hid hmay
      clear hall hmay
      have hmk := make_terms m (by omega)
      have row0 := heap_alloc_new wr (.cells (madeCells (Value.cells (.agg #[.int .i64 zeroR.k, .int .i64 zeroR.n, .bool zeroR.g, .slice zeroR.A zeroR.ln zeroR.lc, .int .u64 zeroR.u, .string zeroR.s, .slice zeroR.B zeroR.m zeroR.d])) (m * 7)) 28)
      have bW := hb.alloc hb.size (.cells (madeCells (Value.cells (.agg #[.int .i64 zeroR.k, .int .i64 zeroR.n, .bool zeroR.g, .slice zeroR.A zeroR.ln zeroR.lc, .int .u64 zeroR.u, .string zeroR.s, .slice zeroR.B zeroR.m zeroR.d])) (m * 7)) 28)
      have hW1 : (wr.alloc (.cells (madeCells (Value.cells (.agg #[.int .i64 zeroR.k, .int .i64 zeroR.n, .bool zeroR.g, .slice zeroR.A zeroR.ln zeroR.lc, .int .u64 zeroR.u, .string zeroR.s, .slice zeroR.B zeroR.m zeroR.d])) (m * 7)) 28)).heap.size = wr.heap.size + 1 := by simp
      have hbs := hb.size
      go_wp2_with fail
      change Calls _ _ _ (wr.alloc (.cells (madeCells (Value.cells (.agg #[.int .i64 zeroR.k, .int .i64 zeroR.n, .bool zeroR.g, .slice zeroR.A zeroR.ln zeroR.lc, .int .u64 zeroR.u, .string zeroR.s, .slice zeroR.B zeroR.m zeroR.d])) (m * 7)) 28)) _
      generalize wr.alloc (.cells (madeCells (Value.cells (.agg #[.int .i64 zeroR.k, .int .i64 zeroR.n, .bool zeroR.g, .slice zeroR.A zeroR.ln zeroR.lc, .int .u64 zeroR.u, .string zeroR.s, .slice zeroR.B zeroR.m zeroR.d])) (m * 7)) 28) = W1 at *
      obtain ⟨g2, hg2⟩ : ∃ g2, g2 = wr.heap.size := ⟨_, rfl⟩
      rw [← hg2] at row0 hW1 hbs ⊢
      clear hg2 hb hmk
      have hS : SoT W1 b o m ts := by
        refine ⟨⟨c, ?_⟩, fun t ht => Tm.may_form (HMAY.out t ht)⟩
        have hT1 := HT.out.below bW
        by_cases h0 : 0 < m
        · rw [hB h0] at hT1; exact hT1
        · have hm0 : m = 0 := by omega
          have hts0 : ts = [] := List.eq_nil_of_length_eq_zero (by omega)
          rw [hm0, hts0]
          exact TVs.nil _ _ _ hT1.dd
      refine (ascending_any W1 b o m c B hB ts hS (by omega)).mono ?_
      rintro _ W2 ⟨g, d, rfl, J, mv, up⟩
      have hdm := J.dm
      have R0 : RwI w b o m g d ts g2 0 W2 := by
        have hgb := J.gb
        obtain ⟨cs, k1, k2, k3⟩ := J.row
        exact ⟨bW.trans (J.be.mono bW.size), ⟨cs, k1, k3⟩, by omega, hbs, _, fun _ => default, (J.be.block g2 (by omega)).trans row0, size_madeCells _ _, fun i hi => absurd hi (by omega), fun i hi => absurd hi (by omega)⟩
      have HS := Lib.hid (show SrtOf ts (byD ts m d) from ⟨fun _ => ⟨byD_perm hlen mv, byD_rise up⟩, fun hn => absurd HMAY.out hn⟩)
      have HP := Lib.hid (byD_perm hlen mv)
      have HDM := Lib.hid hdm
      clear J mv up hdm hS row0 bW
      go_wp2_with fail
      go_loopw [25] (fun i w' => ∃ k : Nat, k ≤ m ∧ i = .int .i64 (k : Int) ∧ RwI w b o m g d ts g2 k w') (fun i _ => m - (intOf i).toNat)
      case atStart => exact ⟨0, Nat.zero_le _, rfl, R0⟩
      case round =>
        clear R0
        obtain ⟨k, hk, rfl, J⟩ := hrel
        by_cases hkm : k < m
        · have hd2 : decide ((k : Int) < (m : Int)) = true := decide_eq_true (by omega)
          have hBB := hB (by omega)
          have hdk := HDM.out k hkm
          obtain ⟨b1, o1, r, t, e, hlt, h7w, het, htv⟩ := HT.out.get (d k) hdk
          rw [hBB] at e
          cases e
          have hat : at' ts (d k) = t := by unfold at'; rw [List.getD_eq_getElem?_getD, het]; rfl
          have h7 := h7w.below J.be hlt
          have pc := J.pc hkm
          have y0 := h7.c0; have y1 := h7.c1; have y2 := h7.c2; have y3 := h7.c3; have y4 := h7.c4; have y5 := h7.c5; have y6 := h7.c6
          obtain ⟨v0, q0⟩ := J.cell (x := k * 7) (by omega)
          obtain ⟨v1, q1⟩ := J.cell (x := k * 7 + 1) (by omega)
          obtain ⟨v2, q2⟩ := J.cell (x := k * 7 + 2) (by omega)
          obtain ⟨v3, q3⟩ := J.cell (x := k * 7 + 3) (by omega)
          obtain ⟨v4, q4⟩ := J.cell (x := k * 7 + 4) (by omega)
          obtain ⟨v5, q5⟩ := J.cell (x := k * 7 + 5) (by omega)
          obtain ⟨v6, q6⟩ := J.cell (x := k * 7 + 6) (by omega)
          have f0 := J.frozen (k * 7)
          have f1 := J.frozen (k * 7 + 1)
          have f2 := J.frozen (k * 7 + 2)
          have f3 := J.frozen (k * 7 + 3)
          have f4 := J.frozen (k * 7 + 4)
          have f5 := J.frozen (k * 7 + 5)
          have f6 := J.frozen (k * 7 + 6)
          have J1 := Lib.hid ((J.put r).step (by rw [hat]; exact htv) (put7o_at r (fun x hx => J.cell (x := k * 7 + x) (by omega))))
          clear J h7 h7w het htv hat
          go_wp2_with fail
          exact ⟨⟨k + 1, by omega, by go_num, by exact J1.out⟩, by simp [intOf]; omega⟩
        · have hd2 : decide ((k : Int) < (m : Int)) = false := decide_eq_false (by omega)
          have e : k = m := by omega
          subst e
          have hT := J.all (by omega)
          have hok' : ∀ t ∈ byD ts k d, t.Ok := fun t ht => HO.out t (HP.out.mem_iff.1 ht)
          have hsz' : Tm.size.sizes (byD ts k d) ≤ 10000 := by rw [sizes_perm HP.out]; exact hsz
          have hbe := J.be
          clear J
          go_wp2_with fail
          refine (freshApart_any wr _ k k (byD ts k d) hT hok' hsz' 22369621 (by omega) (by omega)).mono ?_
          rintro _ v ⟨B', m', d', rfl, hT2, hv⟩
          have hv2 := hv
          clear hT
          go_wp2
          go_ret
          exact ⟨byD ts k d, B', m', d', rfl, hT2.mono fun b h => Nat.le_trans hbe.size h, hbe.trans (hv2.mono hbe.size), HS⟩
end Go.Proofs.Ytmcfokeibecopaa

namespace Go.Proofs.Ytmcfokeibecopaa
open Go.RowKit
open Od

/-- Are two terms, or rows of them, one? -/
noncomputable def eqT (a b : Tm) : Bool := @decide (a = b) (Classical.propDecidable _)
noncomputable def eqTs (a b : List Tm) : Bool := @decide (a = b) (Classical.propDecidable _)
set_option maxRecDepth 100000 in
theorem eqT_self (a : Tm) : eqT a a = true := @decide_eq_true _ (Classical.propDecidable _) rfl
set_option maxRecDepth 100000 in
theorem eqTs_self (a : List Tm) : eqTs a a = true := @decide_eq_true _ (Classical.propDecidable _) rfl
set_option maxRecDepth 100000 in
theorem eqT_ne {a b : Tm} (h : a ≠ b) : eqT a b = false := @decide_eq_false _ (Classical.propDecidable _) h
set_option maxRecDepth 100000 in
theorem eqTs_ne {a b : List Tm} (h : a ≠ b) : eqTs a b = false := @decide_eq_false _ (Classical.propDecidable _) h
set_option maxRecDepth 100000 in
theorem eqT_true {a b : Tm} (h : eqT a b = true) : a = b := @of_decide_eq_true _ (Classical.propDecidable _) h
set_option maxRecDepth 100000 in
theorem eqT_false {a b : Tm} (h : eqT a b = false) : a ≠ b := @of_decide_eq_false _ (Classical.propDecidable _) h
set_option maxRecDepth 100000 in
theorem eqTs_true {a b : List Tm} (h : eqTs a b = true) : a = b := @of_decide_eq_true _ (Classical.propDecidable _) h

set_option maxRecDepth 100000 in
set_option maxRecDepth 100000 in
set_option maxHeartbeats 4000000 in
theorem sameTs_of (ts : List Tm) (ih : ∀ t ∈ ts, ∀ (w : World) (r r' : TR) (t' : Tm), TV w r t → TV w r' t' → Calls Try.prog 23 #[.agg #[.int .i64 r.k, .int .i64 r.n, .bool r.g, .slice r.A r.ln r.lc, .int .u64 r.u, .string r.s, .slice r.B r.m r.d], .agg #[.int .i64 r'.k, .int .i64 r'.n, .bool r'.g, .slice r'.A r'.ln r'.lc, .int .u64 r'.u, .string r'.s, .slice r'.B r'.m r'.d]] w fun e w' => e = .returned (.bool (eqT t t')) ∧ Below w.heap.size w w')
    (ts' : List Tm) (w : World) (B : Option Addr) (m d : Nat) (hts : TVs w B m d ts) (B' : Option Addr) (m' d' : Nat) (hts' : TVs w B' m' d' ts') :
    Calls Try.prog 12 #[.slice B m d, .slice B' m' d'] w fun e w' => e = .returned (.bool (eqTs ts ts')) ∧ Below w.heap.size w w' := by
  have IH := Lib.hid ih
  clear ih
  obtain ⟨Q, hQ⟩ : ∃ Q, Q = eqTs ts ts' := ⟨_, rfl⟩
  rw [← hQ]
  have HQ := Lib.hid hQ
  clear hQ
  have hl := hts.len
  have hl' := hts'.len
  have hml : m ≤ maxLen := Nat.le_trans hts.md hts.dd
  have hml' : (m : Int) ≤ 9223372036854775807 := by unfold maxLen at hml; omega
  by_cases hmm : m = m'
  · subst hmm
    have HT := Lib.hid hts
    have HT' := Lib.hid hts'
    clear hts hts'
    go_enter Try.func12, Try.ntmps12
    go_wp2_with fail
    go_loopw [5] (fun i w' => ∃ j : Nat, j ≤ m ∧ i = .int .i64 (j : Int) ∧ Hid (∀ x, x < j → ts[x]? = ts'[x]?) ∧ Below w.heap.size w w') (fun i _ => m - (intOf i).toNat)
    case atStart => exact ⟨0, Nat.zero_le _, rfl, Lib.hid (fun x h => absurd h (by omega)), Below.refl _ _⟩
    case round =>
      obtain ⟨j, hj, rfl, heq, hb⟩ := hrel
      by_cases hjm : j < m
      · have hd1 : decide ((j : Int) < (m : Int)) = true := by rw [decide_eq_true_iff]; omega
        obtain ⟨b, o, ra, t, e, hlt, h7, het, htv⟩ := (HT.out.below hb).get j hjm
        obtain ⟨b', o', rb, t', e', hlt', h7', het', htv'⟩ := (HT'.out.below hb).get j hjm
        subst e e'
        have hmem := List.mem_of_getElem? het
        have d0 := h7.c0; have d1 := h7.c1; have d2 := h7.c2; have d3 := h7.c3; have d4 := h7.c4; have d5 := h7.c5; have d6 := h7.c6; have c0 := h7'.c0; have c1 := h7'.c1; have c2 := h7'.c2; have c3 := h7'.c3; have c4 := h7'.c4; have c5 := h7'.c5; have c6 := h7'.c6
        have H7 := Lib.hid h7
        have H7' := Lib.hid h7'
        have HV := Lib.hid htv
        have HV' := Lib.hid htv'
        have IA := Lib.hid (IH.out t hmem)
        clear h7 h7' htv htv'
        go_wp2_with fail
        go_region_held3 (fun w' => w'.cell? ⟨b, o + j * 7, none⟩ = some (.int .i64 ra.k) ∧ w'.cell? ⟨b, o + j * 7 + 1, none⟩ = some (.int .i64 ra.n) ∧ w'.cell? ⟨b, o + j * 7 + 2, none⟩ = some (.bool ra.g) ∧ w'.cell? ⟨b, o + j * 7 + 3, none⟩ = some (.slice ra.A ra.ln ra.lc) ∧ w'.cell? ⟨b, o + j * 7 + 4, none⟩ = some (.int .u64 ra.u) ∧ w'.cell? ⟨b, o + j * 7 + 5, none⟩ = some (.string ra.s) ∧ w'.cell? ⟨b, o + j * 7 + 6, none⟩ = some (.slice ra.B ra.m ra.d) ∧ w'.cell? ⟨b', o' + j * 7, none⟩ = some (.int .i64 rb.k) ∧ w'.cell? ⟨b', o' + j * 7 + 1, none⟩ = some (.int .i64 rb.n) ∧ w'.cell? ⟨b', o' + j * 7 + 2, none⟩ = some (.bool rb.g) ∧ w'.cell? ⟨b', o' + j * 7 + 3, none⟩ = some (.slice rb.A rb.ln rb.lc) ∧ w'.cell? ⟨b', o' + j * 7 + 4, none⟩ = some (.int .u64 rb.u) ∧ w'.cell? ⟨b', o' + j * 7 + 5, none⟩ = some (.string rb.s) ∧ w'.cell? ⟨b', o' + j * 7 + 6, none⟩ = some (.slice rb.B rb.m rb.d))
          (first | exact ⟨d0, d1, d2, d3, d4, d5, d6, c0, c1, c2, c3, c4, c5, c6⟩ | exact KS.out)
          (first
            | (go_at_call 23; refine (IA.out wr.drew ra rb t' (by exact HV.out.bel (Below.refl _ _).drew) (by exact HV'.out.bel (Below.refl _ _).drew)).mono ?_; rintro e v ⟨rfl, hv⟩; have KS := Lib.hid (twoS (W := wr.drew) hv (H7.out.below (Below.refl _ _).drew hlt) hlt (H7'.out.below (Below.refl _ _).drew hlt') hlt'); have hB := Lib.hid ((hb.drew).trans (hv.mono hb.size)); clear hv))
        clear d0 d1 d2 d3 d4 d5 d6 c0 c1 c2 c3 c4 c5 c6 KS
        cases hf : eqT t t' with
        | true =>
          have hst := Lib.hid (show ∀ x, x < j + 1 → ts[x]? = ts'[x]? from fun x hx => by
            by_cases e : x = j
            · subst e; rw [het, het', eqT_true hf]
            · exact heq.out x (by omega))
          go_wp2_with fail
          go_roundw
          case rel => exact ⟨j + 1, by omega, by go_num, hst, hB.out⟩
          case measure => simp [intOf]; omega
        | false =>
          have hfin := Lib.hid (show Q = false by
            rw [HQ.out]
            refine eqTs_ne fun e => eqT_false hf ?_
            rw [e, het'] at het
            cases het
            rfl)
          go_wp2
          go_ret
          exact ⟨by rw [hfin.out]; rfl, hB.out⟩
      · have hd1 : decide ((j : Int) < (m : Int)) = false := by rw [decide_eq_false_iff_not]; omega
        have hfin := Lib.hid (show Q = true by
          rw [HQ.out]
          have : ts = ts' := List.ext_getElem? fun x => by
            by_cases hx : x < m
            · exact heq.out x (by omega)
            · rw [List.getElem?_eq_none (by omega), List.getElem?_eq_none (by omega)]
          rw [this]
          exact eqTs_self _)
        go_wp2
        go_ret
        exact ⟨by rw [hfin.out]; rfl, hb⟩
  · have hfin := Lib.hid (show Q = false by
      rw [HQ.out]
      exact eqTs_ne fun e => hmm (by rw [← hl, ← hl', e]))
    have hd : ((m : Int) != (m' : Int)) = true := by rw [bne_iff_ne]; omega
    clear hts hts'
    go_enter Try.func12, Try.ntmps12
    go_wp2
    go_ret
    exact ⟨by rw [hfin.out]; rfl, Below.refl _ _⟩

set_option maxRecDepth 100000 in
set_option maxRecDepth 100000 in
set_option maxHeartbeats 4000000 in
theorem sameT_raw (w : World) (k n : Int) (g : Bool) (A : Option Addr) (ln lc : Nat) (u : Int) (s : ByteArray) (B : Option Addr) (m d : Nat)
    (k' n' : Int) (g' : Bool) (A' : Option Addr) (ln' lc' : Nat) (u' : Int) (s' : ByteArray) (B' : Option Addr) (m' d' : Nat) (l l' : List Nat) (hl : Lim w A ln lc l) (hc : lc ≤ maxLen) (hl' : Lim w A' ln' lc' l') (hc' : lc' ≤ maxLen)
    (Q : Bool) (hQ : ∀ w', Below w.heap.size w w' → Calls Try.prog 12 #[.slice B m d, .slice B' m' d'] w' fun e w'' => e = .returned (.bool Q) ∧ Below w'.heap.size w' w'')
    (R : Bool) (HR : Hid (R = (((((k == k') && (n == n')) && sameB g g' l l') && (u == u')) && decide (s = s') && Q))) :
    Calls Try.prog 23 #[.agg #[.int .i64 k, .int .i64 n, .bool g, .slice A ln lc, .int .u64 u, .string s, .slice B m d], .agg #[.int .i64 k', .int .i64 n', .bool g', .slice A' ln' lc', .int .u64 u', .string s', .slice B' m' d']] w fun e w' => e = .returned (.bool R) ∧ Below w.heap.size w w' := by
  have HQ := Lib.hid hQ
  clear hQ
  have hb0 := ((Below.refl w.heap.size w).alloc (Nat.le_refl _) (.cells #[.int .i64 k, .int .i64 n, .bool g, .slice A ln lc, .int .u64 u, .string s, .slice B m d] 28)).alloc (by simp) (.cells #[.int .i64 k', .int .i64 n', .bool g', .slice A' ln' lc', .int .u64 u', .string s', .slice B' m' d'] 28)
  by_cases ne : k = k'
  case neg =>
    have hfin := Lib.hid (show R = false by rw [HR.out, show (k == k') = false by rw [beq_eq_false_iff_ne]; exact ne]; simp)
    have ne' : (k == k') = false := by rw [beq_eq_false_iff_ne]; exact ne
    go_enter Try.func23, Try.ntmps23
    go_wp2
    go_ret
    exact ⟨by rw [hfin.out]; rfl, hb0⟩
  subst ne
  by_cases ne : n = n'
  case neg =>
    have hfin := Lib.hid (show R = false by rw [HR.out, show (n == n') = false by rw [beq_eq_false_iff_ne]; exact ne]; simp)
    have ne' : (n == n') = false := by rw [beq_eq_false_iff_ne]; exact ne
    go_enter Try.func23, Try.ntmps23
    go_wp2
    go_ret
    exact ⟨by rw [hfin.out]; rfl, hb0⟩
  subst ne
  have hx := (Box7.new w (TR.mk k n g A ln lc u s B m d)).below ((Below.refl _ _).alloc (Nat.le_refl _) (.cells #[.int .i64 (TR.mk k n g' A' ln' lc' u' s' B' m' d').k, .int .i64 (TR.mk k n g' A' ln' lc' u' s' B' m' d').n, .bool (TR.mk k n g' A' ln' lc' u' s' B' m' d').g, .slice (TR.mk k n g' A' ln' lc' u' s' B' m' d').A (TR.mk k n g' A' ln' lc' u' s' B' m' d').ln (TR.mk k n g' A' ln' lc' u' s' B' m' d').lc, .int .u64 (TR.mk k n g' A' ln' lc' u' s' B' m' d').u, .string (TR.mk k n g' A' ln' lc' u' s' B' m' d').s, .slice (TR.mk k n g' A' ln' lc' u' s' B' m' d').B (TR.mk k n g' A' ln' lc' u' s' B' m' d').m (TR.mk k n g' A' ln' lc' u' s' B' m' d').d] 28))
  have hy := Box7.new (w.alloc (.cells #[.int .i64 (TR.mk k n g A ln lc u s B m d).k, .int .i64 (TR.mk k n g A ln lc u s B m d).n, .bool (TR.mk k n g A ln lc u s B m d).g, .slice (TR.mk k n g A ln lc u s B m d).A (TR.mk k n g A ln lc u s B m d).ln (TR.mk k n g A ln lc u s B m d).lc, .int .u64 (TR.mk k n g A ln lc u s B m d).u, .string (TR.mk k n g A ln lc u s B m d).s, .slice (TR.mk k n g A ln lc u s B m d).B (TR.mk k n g A ln lc u s B m d).m (TR.mk k n g A ln lc u s B m d).d] 28)) (TR.mk k n g' A' ln' lc' u' s' B' m' d')
  rw [World.size_alloc] at hy
  have hl0 := hl.below hb0
  have hl0' := hl'.below hb0
  have hcase := Lib.hid (show R = (((sameB g g' l l' && (u == u')) && decide (s = s')) && Q) by rw [HR.out]; simp)
  clear HR
  go_enter Try.func23, Try.ntmps23
  go_wp2_with fail
  generalize (w.alloc (.cells #[.int .i64 (TR.mk k n g A ln lc u s B m d).k, .int .i64 (TR.mk k n g A ln lc u s B m d).n, .bool (TR.mk k n g A ln lc u s B m d).g, .slice (TR.mk k n g A ln lc u s B m d).A (TR.mk k n g A ln lc u s B m d).ln (TR.mk k n g A ln lc u s B m d).lc, .int .u64 (TR.mk k n g A ln lc u s B m d).u, .string (TR.mk k n g A ln lc u s B m d).s, .slice (TR.mk k n g A ln lc u s B m d).B (TR.mk k n g A ln lc u s B m d).m (TR.mk k n g A ln lc u s B m d).d] 28)).alloc (.cells #[.int .i64 (TR.mk k n g' A' ln' lc' u' s' B' m' d').k, .int .i64 (TR.mk k n g' A' ln' lc' u' s' B' m' d').n, .bool (TR.mk k n g' A' ln' lc' u' s' B' m' d').g, .slice (TR.mk k n g' A' ln' lc' u' s' B' m' d').A (TR.mk k n g' A' ln' lc' u' s' B' m' d').ln (TR.mk k n g' A' ln' lc' u' s' B' m' d').lc, .int .u64 (TR.mk k n g' A' ln' lc' u' s' B' m' d').u, .string (TR.mk k n g' A' ln' lc' u' s' B' m' d').s, .slice (TR.mk k n g' A' ln' lc' u' s' B' m' d').B (TR.mk k n g' A' ln' lc' u' s' B' m' d').m (TR.mk k n g' A' ln' lc' u' s' B' m' d').d] 28) = W at *
  refine (sameNum_any W g g' A A' ln lc ln' lc' l l' hl0 hc hl0' hc').mono ?_
  generalize sameB g g' l l' = f at hcase ⊢
  rintro e w1 ⟨rfl, hb1⟩
  have hx1 := hx.below hb1
  have hy1 := hy.below hb1
  have b1 := hb0.trans (hb1.mono hb0.size)
  have y0 := hx1.at.c0; have y1 := hx1.at.c1; have y2 := hx1.at.c2; have y3 := hx1.at.c3; have y4 := hx1.at.c4; have y5 := hx1.at.c5; have y6 := hx1.at.c6; have x0 := hy1.at.c0; have x1 := hy1.at.c1; have x2 := hy1.at.c2; have x3 := hy1.at.c3; have x4 := hy1.at.c4; have x5 := hy1.at.c5; have x6 := hy1.at.c6
  clear hx hy hx1 hy1 hl0 hl0'
  cases f with
  | false =>
    have hfin := Lib.hid (show R = false by rw [hcase.out]; simp)
    go_wp2
    go_ret
    exact ⟨by rw [hfin.out]; rfl, b1⟩
  | true =>
    by_cases ne : u = u'
    case neg =>
      have hfin := Lib.hid (show R = false by rw [hcase.out, show (u == u') = false by rw [beq_eq_false_iff_ne]; exact ne]; simp)
      have ne' : (u == u') = false := by rw [beq_eq_false_iff_ne]; exact ne
      go_wp2
      go_ret
      exact ⟨by rw [hfin.out]; rfl, b1⟩
    subst ne
    by_cases ne : s = s'
    case neg =>
      have hfin := Lib.hid (show R = false by rw [hcase.out, decide_eq_false ne]; simp)
      have ne' := toList_ne ne
      go_wp2
      go_ret
      exact ⟨by rw [hfin.out]; rfl, b1⟩
    subst ne
    have hfin := Lib.hid (show R = Q by rw [hcase.out]; simp)
    go_wp2_with fail
    refine (HQ.out w1 b1).mono ?_
    rw [← hfin.out]
    rintro e w2 ⟨rfl, hb2⟩
    go_wp2
    go_ret
    exact ⟨rfl, b1.trans (hb2.mono b1.size)⟩
set_option maxRecDepth 100000 in
theorem sameT_any (t : Tm) : ∀ (w : World) (r r' : TR) (t' : Tm), TV w r t → TV w r' t' → Calls Try.prog 23 #[.agg #[.int .i64 r.k, .int .i64 r.n, .bool r.g, .slice r.A r.ln r.lc, .int .u64 r.u, .string r.s, .slice r.B r.m r.d], .agg #[.int .i64 r'.k, .int .i64 r'.n, .bool r'.g, .slice r'.A r'.ln r'.lc, .int .u64 r'.u, .string r'.s, .slice r'.B r'.m r'.d]] w fun e w' => e = .returned (.bool (eqT t t')) ∧ Below w.heap.size w w' := by
  induction t using Tm.ind with
  | h k n g l u s ks ih =>
    intro w r r' t' h h'
    have hks : (Tm.mk k n g l u s ks).args = ks := rfl
    rw [← hks] at ih
    generalize Tm.mk k n g l u s ks = t at *
    refine sameT_raw w r.k r.n r.g r.A r.ln r.lc r.u r.s r.B r.m r.d r'.k r'.n r'.g r'.A r'.ln r'.lc r'.u r'.s r'.B r'.m r'.d t.mag t'.mag h.flat.lim h.flat.cap h'.flat.lim h'.flat.cap (eqTs t.args t'.args) (fun w' hb => sameTs_of t.args ih t'.args w' r.B r.m r.d (h.bel hb).args r'.B r'.m r'.d (h'.bel hb).args) _ (Lib.hid ?_)
    rw [← h.kind, ← h.num, ← h.neg, ← h.bits, ← h.bytes, ← h'.kind, ← h'.num, ← h'.neg, ← h'.bits, ← h'.bytes]
    by_cases e : t = t'
    · subst e
      rw [eqT_self, eqTs_self]
      simp [sameB]
    · rw [eqT_ne e]
      symm
      rw [Bool.eq_false_iff]
      intro hh
      apply e
      simp only [Bool.and_eq_true, beq_iff_eq, decide_eq_true_eq, sameB] at hh
      obtain ⟨⟨⟨⟨⟨h1, h2⟩, h3, h4⟩, h5⟩, h6⟩, h7⟩ := hh
      have h8 := eqTs_true h7
      have ee : ∀ t : Tm, t = .mk t.kind t.num t.neg t.mag t.bits t.bytes t.args := fun t => by cases t; rfl
      exact (ee t).trans (by rw [h1, h2, h3, h4, h5, h6, h8]; exact (ee t').symm)
set_option maxRecDepth 100000 in
theorem sameTs_any (w : World) (B : Option Addr) (m d : Nat) (ts : List Tm) (hts : TVs w B m d ts) (B' : Option Addr) (m' d' : Nat) (ts' : List Tm) (hts' : TVs w B' m' d' ts') :
    Calls Try.prog 12 #[.slice B m d, .slice B' m' d'] w fun e w' => e = .returned (.bool (eqTs ts ts')) ∧ Below w.heap.size w w' :=
  sameTs_of ts (fun t _ => sameT_any t) ts' w B m d hts B' m' d' hts'
end Go.Proofs.Ytmcfokeibecopaa
