/-
  PACKAGE fresh: left; a look-up in no map.
-/
import Derived.Test.YtbpihjcghmmacaaTmS
namespace Go.Proofs.Ytbpihjcghmmacaa
open Go.RowKit

theorem look_none (w : World) (a : Addr) (n : Int) : (Instr.lookup 73 (.map none) (.agg #[.pointer (some a), .int .i64 n]) true).run Try.prog w = .ok (.tuple #[.slice none 0 0, .bool false]) w := by
  kernel_rfl
theorem neq_nilmade (w : World) : (binOp .neq 73 (.map none) (.map none)).run Try.prog w = .ok (.bool false) w := by
  have h : ∀ d : Nat, (Op.equalIn (d + 1) 73 (.map none) (.map none)).run Try.prog w = .ok true w := fun d => by
    simp [Op.equalIn, run_underlying Try.underlying73]
  simp only [binOp]
  simp [Op.equal, Op.maxDepth, h 9999]

theorem Tm.sizes_take {ts : List Tm} {j : Nat} {t : Tm} (h : ts[j]? = some t) : Tm.size.sizes (ts.take (j + 1)) = Tm.size.sizes (ts.take j) + t.size := by
  induction ts generalizing j with
  | nil => simp at h
  | cons a r ih =>
    cases j with
    | zero => simp at h; subst h; simp [Tm.size.sizes]
    | succ j =>
      simp at h
      have := ih h
      simp only [List.take_succ_cons, Tm.size.sizes, this]
      omega
theorem Tm.sizes_take_le (ts : List Tm) (j : Nat) : Tm.size.sizes (ts.take j) ≤ Tm.size.sizes ts := by
  induction ts generalizing j with
  | nil => simp
  | cons a r ih =>
    cases j with
    | zero => simp [Tm.size.sizes]
    | succ j => have := ih j; simp only [List.take_succ_cons, Tm.size.sizes]; omega

set_option maxHeartbeats 2000000 in
theorem left_args (t : Tm) : ∀ (w : World) (B : Option Addr) (m d : Nat), TVs w B m d t.args → ∀ most : Int, (Tm.size.sizes t.args : Int) < most → most ≤ 1000000 →
    Calls Try.prog 62 #[.slice B m d, .int .i64 most] w fun e w' => e = .returned (.int .i64 (most - (Tm.size.sizes t.args : Int))) ∧ Below w.heap.size w w' := by
  induction t using Tm.ind with
  | h k n g l u s ks ih =>
    intro w B m d hts most hm0 hm1
    have IH := Lib.hid ih
    clear ih
    rw [show (Tm.mk k n g l u s ks).args = ks from rfl] at hts hm0 ⊢
    obtain ⟨R, hR⟩ : ∃ R, R = most - (Tm.size.sizes ks : Int) := ⟨_, rfl⟩
    rw [← hR]
    have HR := Lib.hid hR
    have H0 := Lib.hid hm0
    clear hR hm0
    have hml : m ≤ maxLen := Nat.le_trans hts.md hts.dd
    have hml' : (m : Int) ≤ 9223372036854775807 := by unfold maxLen at hml; omega
    go_enter Try.func62, Try.ntmps62
    go_wp2_with fail
    go_loopw [1, 5] (fun x i w' => ∃ (j : Nat) (z : Int), j ≤ m ∧ i = .int .i64 (j : Int) ∧ x = .int .i64 z ∧ 0 < z ∧ z ≤ most ∧ Hid (z = most - (Tm.size.sizes (ks.take j) : Int)) ∧ Below w.heap.size w w') (fun _ i _ => m - (intOf i).toNat)
    case atStart => exact ⟨0, most, Nat.zero_le _, rfl, rfl, by have := H0.out; omega, by omega, Lib.hid (by simp [Tm.size.sizes]), Below.refl _ _⟩
    case round =>
      obtain ⟨j, z, hj, rfl, rfl, hz0, hz1, hz, hb⟩ := hrel
      by_cases hjm : j < m
      · obtain ⟨b, o, r, t, e, hlt, h7, het, htv⟩ := (hts.below hb).get j hjm
        subst e
        have c6 := h7.c6
        have st := Lib.hid (Tm.sizes_take het)
        have hd1 : decide ((j : Int) < (m : Int)) = true := by rw [decide_eq_true_iff]; omega
        have hd2 : decide (0 < z) = true := by rw [decide_eq_true_iff]; exact hz0
        have hsz : (Tm.size.sizes t.args : Int) < z - 1 := by
          have h1 := hz.out
          have h2 := st.out
          have h3 := Tm.sizes_take_le ks (j + 1)
          have h4 := H0.out
          have h5 : t.size = 1 + Tm.size.sizes t.args := by cases t; rw [Tm.size]; rfl
          omega
        have hst := Lib.hid (show z - 1 - (Tm.size.sizes t.args : Int) = most - (Tm.size.sizes (ks.take (j + 1)) : Int) by
          have h1 := hz.out
          have h2 := st.out
          have h5 : t.size = 1 + Tm.size.sizes t.args := by cases t; rw [Tm.size]; rfl
          omega)
        go_wp2_with fail
        refine (IH.out t (List.mem_of_getElem? het) wr r.B r.m r.d htv.args (z - 1) hsz (by omega)).mono ?_
        have hnn : (0 : Int) ≤ (Tm.size.sizes t.args : Int) := by omega
        generalize (Tm.size.sizes t.args : Int) = q at hst hsz hnn ⊢
        rintro e w1 ⟨rfl, hb1⟩
        go_wp2_with fail
        exact ⟨⟨j + 1, z - 1 - q, by omega, by go_num, by go_num, by omega, by omega, hst, hb.trans (hb1.mono hb.size)⟩, by simp [intOf]; omega⟩
      · have hfin := Lib.hid (show R = z by
          rw [HR.out, hz.out, List.take_of_length_le (by rw [hts.len]; omega)])
        have hd1 : decide ((j : Int) < (m : Int)) = false := by rw [decide_eq_false_iff_not]; omega
        go_wp2_with fail
        go_ret
        exact ⟨by rw [hfin.out]; rfl, hb⟩
theorem left_any (w : World) (B : Option Addr) (m d : Nat) (ts : List Tm) (h : TVs w B m d ts) (most : Int) (h0 : (Tm.size.sizes ts : Int) < most) (h1 : most ≤ 1000000) :
    Calls Try.prog 62 #[.slice B m d, .int .i64 most] w fun e w' => e = .returned (.int .i64 (most - (Tm.size.sizes ts : Int))) ∧ Below w.heap.size w w' :=
  left_args (.mk 0 0 false [] 0 ⟨#[]⟩ ts) w B m d h most h0 h1
end Go.Proofs.Ytbpihjcghmmacaa
