/-
  PACKAGE container/heap over the free slots: Push, Pop.
-/
import Derived.Test.YtacanobhfebnaaaStC
namespace Go.Proofs.Ytacanobhfebnaaa
open Go.RowKit
open St

set_option maxRecDepth 100000 in
set_option maxRecDepth 100000 in
set_option maxHeartbeats 2000000 in
theorem heapPush_any {w : World} {S : Nat} {v1 v3 : Value} {F : Option Addr} {m e : Nat} {d : Nat → Nat} (h : Fre w S v1 v3 F m e d) (hm : m ≤ 90000) (hh : Hp m d) (x : Nat) (d1 : Nat → Nat) (e1 : ∀ k, k < m → d1 k = d k) (e2 : d1 m = x) :
    Calls Try.prog 29 #[hv S, .iface 3 (.int .i64 (x : Int))] w fun r w' => r = .returned (.tuple #[]) ∧ ∃ F' e' d', Fre w' S v1 v3 F' (m + 1) e' d' ∧ Hp (m + 1) d' ∧ Pm (m + 1) d1 d' ∧ Chg (kF S F) w w' ∧ (∀ k, F'.map (·.block) = some k → F.map (·.block) = some k ∨ w.heap.size ≤ k) := by
  have hh1 : Hp m d1 := fun k k0 hk => by rw [e1 k hk, e1 _ (by omega)]; exact hh k k0 hk
  have hu := Lib.hid (UpI.snoc hh1)
  have HP := Lib.hid (push_any h (by omega) x d1 e1 e2)
  have qp := fun n => meth_push n ⟨S, 1, none⟩ w
  clear h hh hh1 e1 e2
  go_enter Try.func29, Try.ntmps29
  go_wp2_with (first
    | (go_at_call 55; (with_reducible refine HP.out.mono ?_); rintro r w1 ⟨rfl, F', e', hF, hC, hL⟩; have ql := fun n => meth_len n ⟨S, 1, none⟩ _ w1 hF.c1; have HU := Lib.hid (up_any hF (by omega) m (by omega) hu.out); replace hF := Lib.hid hF; replace hC := Lib.hid hC; replace hL := Lib.hid hL)
    | (go_at_call 51; (with_reducible refine (len_any _ _ _ _).mono ?_); rintro r w2 ⟨rfl, rfl⟩)
    | (go_at_call 33; (with_reducible refine HU.out.mono ?_); rintro r w2 ⟨rfl, d', k1, k2, k3, k4⟩; replace k1 := Lib.hid k1; replace k2 := Lib.hid k2; replace k3 := Lib.hid k3; replace k4 := Lib.hid k4))
  go_end0
  refine ⟨rfl, F', e', d', k1.out, k2.out, k3.out, hC.out.trans (Chg.grown k4.out (K := fun k => F'.map (·.block) = some k) (fun k hk => hk)) (fun k hk hk2 => ?_), hL.out⟩
  rcases hL.out k hk2 with h1 | h1
  · exact .inr h1
  · omega

set_option maxRecDepth 100000 in
set_option maxRecDepth 100000 in
set_option maxHeartbeats 2000000 in
theorem heapPop_any {w : World} {S : Nat} {v1 v3 : Value} {F : Option Addr} {m e : Nat} {d : Nat → Nat} (h : Fre w S v1 v3 F (m + 1) e d) (hm : m ≤ 90000) (hh : Hp (m + 1) d) :
    Calls Try.prog 31 #[hv S] w fun r w' => r = .returned (.iface 3 (.int .i64 ((d 0 : Nat) : Int))) ∧ ∃ d', Fre w' S v1 v3 F m e d' ∧ Hp m d' ∧ Pm m (swp d 0 m) d' ∧ Chg (kF S F) w w' := by
  have hu := Lib.hid (DnI.first hh)
  have ql := fun n => meth_len n ⟨S, 1, none⟩ _ w h.c1
  have qs := fun n => meth_swap n ⟨S, 1, none⟩ _ w h.c1
  have HS : Hid (Calls Try.prog 53 #[.slice F (m + 1) e, .int .i64 0, .int .i64 (m : Int)] w fun r w' => r = .returned (.tuple #[]) ∧ Fre w' S v1 v3 F (m + 1) e (swp d 0 m) ∧ w.grownBy w' (F.map (·.block))) := Lib.hid (swap_any h 0 m (by omega) (by omega) (by omega))
  have qp := fun n w => meth_pop n ⟨S, 1, none⟩ w
  clear h
  go_enter Try.func31, Try.ntmps31
  go_wp2_with (first
    | (go_at_call 51; (with_reducible refine (len_any _ _ _ _).mono ?_); rintro r w2 ⟨rfl, rfl⟩)
    | (go_at_call 53; (with_reducible refine HS.out.mono ?_); rintro r w1 ⟨rfl, hF, hG⟩; have HD := Lib.hid (down_any hF (by omega) hu.out); replace hF := Lib.hid hF; replace hG := Lib.hid hG)
    | (go_at_call 34; (with_reducible refine HD.out.mono ?_); rintro r w2 ⟨b, rfl, d', k1, k2, k3, k4⟩; have HO := Lib.hid (pop_any k1 (by omega)); replace k1 := Lib.hid k1; replace k2 := Lib.hid k2; replace k3 := Lib.hid k3; replace k4 := Lib.hid k4)
    | (go_at_call 54; (with_reducible refine HO.out.mono ?_); rintro r w3 ⟨rfl, l1, l2⟩; replace l1 := Lib.hid l1; replace l2 := Lib.hid l2))
  go_ret
  refine ⟨?_, d', l1.out, k2.out, k3.out, ?_⟩
  · have := k3.out.out m (Nat.le_refl _)
    rw [this, swp_j]
    try rfl
  · have c1 := Chg.grown hG.out (K := kF S F) (fun k hk => .inr hk)
    have c2 := Chg.grown k4.out (K := kF S F) (fun k hk => .inr hk)
    have c3 := Chg.grown l2.out (K := kF S F) (fun k hk => .inl (by cases hk; rfl))
    exact (c1.trans c2 (fun _ _ h => h)).trans c3 (fun _ _ h => h)
end Go.Proofs.Ytacanobhfebnaaa
