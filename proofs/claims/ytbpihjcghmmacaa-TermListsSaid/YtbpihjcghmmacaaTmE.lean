/-
  PACKAGE weigh: Weight, Above; the reference's Weight, Above.
-/
import Derived.Test.YtbpihjcghmmacaaTmD
namespace Go.Proofs.Ytbpihjcghmmacaa
open Go.RowKit

/-- How heavy a term is told to be. -/
def Tm.cap (t : Tm) : Nat := min 301 t.wt
theorem Tm.cap_le (t : Tm) : 1 ≤ t.cap ∧ t.cap ≤ 301 := by
  have := Tm.wt_pos t
  unfold Tm.cap
  omega
/-- The sum of several. -/
def Tm.caps : List Tm → Nat
  | [] => 0
  | t :: r => t.cap + Tm.caps r
theorem Tm.caps_append (a b : List Tm) : Tm.caps (a ++ b) = Tm.caps a + Tm.caps b := by
  induction a with
  | nil => simp [Tm.caps]
  | cons t r ih => simp [Tm.caps, ih]; omega
theorem Tm.caps_take_succ {ts : List Tm} {i : Nat} {t : Tm} (h : ts[i]? = some t) : Tm.caps (ts.take (i + 1)) = Tm.caps (ts.take i) + t.cap := by
  rw [List.take_add_one, h, Tm.caps_append]
  simp [Tm.caps]
theorem Tm.caps_take_le (ts : List Tm) (i : Nat) : Tm.caps (ts.take i) ≤ Tm.caps ts := by
  have := Tm.caps_append (ts.take i) (ts.drop i)
  rw [List.take_append_drop] at this
  omega
theorem Tm.caps_le (ts : List Tm) : Tm.caps ts ≤ 301 * ts.length := by
  induction ts with
  | nil => simp [Tm.caps]
  | cons t r ih => have := Tm.cap_le t; simp [Tm.caps]; omega
theorem Tm.caps_all {ts : List Tm} {j : Nat} (h : ts.length ≤ j) : Tm.caps (ts.take j) = Tm.caps ts := by rw [List.take_of_length_le h]

set_option maxHeartbeats 1000000 in
theorem weight_any (w : World) (r : TR) (t : Tm) (h : TV w r t) (ho : t.Ok) :
    Calls Try.prog 29 #[.agg #[.int .i64 r.k, .int .i64 r.n, .bool r.g, .slice r.A r.ln r.lc, .int .u64 r.u, .string r.s, .slice r.B r.m r.d]] w fun e w' => e = .returned (.int .i64 (t.cap : Int)) ∧ Below w.heap.size w w' := by
  obtain ⟨R, hR⟩ : ∃ R, R = (t.cap : Int) := ⟨_, rfl⟩
  rw [← hR]
  have HR := Lib.hid hR
  clear hR
  have hb0 := (Below.refl w.heap.size w).alloc (Nat.le_refl _) (.cells #[.int .i64 r.k, .int .i64 r.n, .bool r.g, .slice r.A r.ln r.lc, .int .u64 r.u, .string r.s, .slice r.B r.m r.d] 28)
  have h2 := h.bel hb0
  go_enter Try.func29, Try.ntmps29
  go_wp2_with fail
  refine (room_any t _ r h2 ho 301 (by omega) (by omega)).mono ?_
  obtain ⟨q, hq⟩ : ∃ q, q = (301 : Int) - min 301 (t.wt : Int) := ⟨_, rfl⟩
  have hqb : 0 ≤ q ∧ q ≤ 301 := by omega
  have hfin := Lib.hid (show R = 301 - q by
    have h1 := HR.out
    unfold Tm.cap at h1
    omega)
  rw [← hq]
  clear hq
  rintro e w1 ⟨rfl, hb1⟩
  go_wp2_with fail
  go_ret
  exact ⟨by rw [hfin.out]; go_num, hb0.trans (hb1.mono (by simp))⟩

/-- Are terms together above a weight? -/
def aboveB (most : Int) (ts : List Tm) : Bool := decide (most < (Tm.caps ts : Int))

end Go.Proofs.Ytbpihjcghmmacaa
