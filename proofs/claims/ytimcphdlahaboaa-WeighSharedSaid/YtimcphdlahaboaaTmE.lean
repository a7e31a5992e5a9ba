/-
  PACKAGE weigh: Weight, Above; the reference's Weight, Above.
-/
import Derived.Test.YtimcphdlahaboaaTmD
namespace Go.Proofs.Ytimcphdlahaboaa
open Go.RowKit

/-- How heavy a term is told to be. -/
def Tm.cap (t : Tm) : Nat := min 301 t.wt
theorem Tm.cap_le (t : Tm) : 1 ≤ t.cap ∧ t.cap ≤ 301 := by
  have := Tm.wt_pos t
  unfold Tm.cap
  omega
/-- The sum of several. -/
def Tm.caps : List Tm → Nat
  | [] => 0
  | t :: r => t.cap + Tm.caps r
theorem Tm.caps_append (a b : List Tm) : Tm.caps (a ++ b) = Tm.caps a + Tm.caps b := by
  induction a with
  | nil => simp [Tm.caps]
  | cons t r ih => simp [Tm.caps, ih]; omega
theorem Tm.caps_take_succ {ts : List Tm} {i : Nat} {t : Tm} (h : ts[i]? = some t) : Tm.caps (ts.take (i + 1)) = Tm.caps (ts.take i) + t.cap := by
  rw [List.take_add_one, h, Tm.caps_append]
  simp [Tm.caps]
theorem Tm.caps_take_le (ts : List Tm) (i : Nat) : Tm.caps (ts.take i) ≤ Tm.caps ts := by
  have := Tm.caps_append (ts.take i) (ts.drop i)
  rw [List.take_append_drop] at this
  omega
theorem Tm.caps_le (ts : List Tm) : Tm.caps ts ≤ 301 * ts.length := by
  induction ts with
  | nil => simp [Tm.caps]
  | cons t r ih => have := Tm.cap_le t; simp [Tm.caps]; omega
theorem Tm.caps_all {ts : List Tm} {j : Nat} (h : ts.length ≤ j) : Tm.caps (ts.take j) = Tm.caps ts := by rw [List.take_of_length_le h]

set_option maxHeartbeats 1000000 in
theorem weight_any (w : World) (r : TR) (t : Tm) (h : TV w r t) (ho : t.Ok) :
    Calls Try.prog 9 #[.agg #[.int .i64 r.k, .int .i64 r.n, .bool r.g, .slice r.A r.ln r.lc, .int .u64 r.u, .string r.s, .slice r.B r.m r.d]] w fun e w' => e = .returned (.int .i64 (t.cap : Int)) ∧ Below w.heap.size w w' := by
  obtain ⟨R, hR⟩ : ∃ R, R = (t.cap : Int) := ⟨_, rfl⟩
  rw [← hR]
  have HR := Lib.hid hR
  clear hR
  have hb0 := (Below.refl w.heap.size w).alloc (Nat.le_refl _) (.cells #[.int .i64 r.k, .int .i64 r.n, .bool r.g, .slice r.A r.ln r.lc, .int .u64 r.u, .string r.s, .slice r.B r.m r.d] 28)
  have h2 := h.bel hb0
  go_enter Try.func9, Try.ntmps9
  go_wp2_with fail
  refine (room_any t _ r h2 ho 301 (by omega) (by omega)).mono ?_
  obtain ⟨q, hq⟩ : ∃ q, q = (301 : Int) - min 301 (t.wt : Int) := ⟨_, rfl⟩
  have hqb : 0 ≤ q ∧ q ≤ 301 := by omega
  have hfin := Lib.hid (show R = 301 - q by
    have h1 := HR.out
    unfold Tm.cap at h1
    omega)
  rw [← hq]
  clear hq
  rintro e w1 ⟨rfl, hb1⟩
  go_wp2_with fail
  go_ret
  exact ⟨by rw [hfin.out]; go_num, hb0.trans (hb1.mono (by simp))⟩

/-- Are terms together above a weight? -/
def aboveB (most : Int) (ts : List Tm) : Bool := decide (most < (Tm.caps ts : Int))

set_option maxHeartbeats 2000000 in
theorem above_any (w : World) (B : Option Addr) (m d : Nat) (ts : List Tm) (hts : TVs w B m d ts) (hok : ∀ t ∈ ts, t.Ok) (hm : m ≤ 1000000) (most : Int) :
    Calls Try.prog 11 #[.int .i64 most, .slice B m d] w fun e w' => e = .returned (.bool (aboveB most ts)) ∧ Below w.heap.size w w' := by
  obtain ⟨R, hR⟩ : ∃ R, R = aboveB most ts := ⟨_, rfl⟩
  rw [← hR]
  have HR := Lib.hid hR
  clear hR
  have hlen := hts.len
  go_enter Try.func11, Try.ntmps11
  go_wp2_with fail
  go_loopw [5, 9] (fun x i w' => ∃ (j z : Nat), j ≤ m ∧ i = .int .i64 (j : Int) ∧ x = .int .i64 (z : Int) ∧ z ≤ 301 * j ∧ Hid (z = Tm.caps (ts.take j)) ∧ Below w.heap.size w w') (fun _ i _ => m - (intOf i).toNat)
  case atStart => exact ⟨0, 0, Nat.zero_le _, rfl, rfl, by omega, Lib.hid (by simp [Tm.caps]), Below.refl _ _⟩
  case round =>
    obtain ⟨j, z, hj, rfl, rfl, hz1, hz, hb⟩ := hrel
    by_cases hjm : j < m
    · have hd1 : decide ((j : Int) < (m : Int)) = true := by rw [decide_eq_true_iff]; omega
      by_cases hzm : most < (z : Int)
      · have hfin := Lib.hid (show R = true by
          rw [HR.out]
          unfold aboveB
          rw [decide_eq_true_iff]
          have h1 := hz.out
          have h2 := Tm.caps_take_le ts j
          omega)
        have hd2 : decide (most < (z : Int)) = true := by rw [decide_eq_true_iff]; exact hzm
        go_wp2_with fail
        go_ret
        exact ⟨by rw [hfin.out]; rfl, hb⟩
      · have hd2 : decide (most < (z : Int)) = false := by rw [decide_eq_false_iff_not]; exact hzm
        obtain ⟨b, o, r', t', e, hlt, h7, het, htv'⟩ := (hts.below hb).get j hjm
        have hmem := List.mem_of_getElem? het
        have st := Lib.hid (Tm.caps_take_succ het)
        have d0 := h7.c0
        have d1 := h7.c1
        have d2 := h7.c2
        have d3 := h7.c3
        have d4 := h7.c4
        have d5 := h7.c5
        have d6 := h7.c6
        subst e
        go_wp2_with fail
        refine (weight_any wr r' t' htv' (hok t' hmem)).mono ?_
        have hcap := Tm.cap_le t'
        generalize t'.cap = q at hcap st ⊢
        rintro e w2 ⟨rfl, hb2⟩
        go_wp2_with fail
        go_roundw
        case rel => exact ⟨j + 1, z + q, by omega, by go_num, by go_num, by omega, Lib.hid (by rw [st.out, ← hz.out]), hb.trans (hb2.mono hb.size)⟩
        case measure => simp [intOf]; omega
    · have hd1 : decide ((j : Int) < (m : Int)) = false := by rw [decide_eq_false_iff_not]; omega
      have hfin := Lib.hid (show R = decide (most < (z : Int)) by
        rw [HR.out]
        unfold aboveB
        rw [hz.out, Tm.caps_all (by omega)])
      go_wp2_with fail
      go_ret
      exact ⟨by rw [hfin.out]; rfl, hb⟩
end Go.Proofs.Ytimcphdlahaboaa
