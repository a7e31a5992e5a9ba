/-
  CONTRACTS OF THE LAWS' OWN FUNCTIONS ON INTEGERS (beehiveref1): May, at, size, fit, may.
  CONTRACTS OF THE LAWS' OWN FUNCTIONS ON INTEGERS (beehiveref1): may, plus, minus, Of.
  CONTRACTS OF THE LAWS' OWN FUNCTIONS ON INTEGERS (beehiveref1): Of, Neg, Add.
  CONTRACTS OF THE LAWS' OWN FUNCTIONS ON INTEGERS (beehiveref1): Add whole, Sub, Cmp.
  CONTRACTS OF THE LAWS' OWN FUNCTIONS ON INTEGERS (beehiveref1): Mul.
  CONTRACTS OF THE LAWS' OWN FUNCTIONS ON INTEGERS (beehiveref1): Small.
-/
import Derived.Test.YtompimbeaeinbaaJ2
namespace Go.Proofs.Ytompimbeaeinbaa
open Go.RowKit

end Go.Proofs.Ytompimbeaeinbaa

namespace Go.Proofs.Ytompimbeaeinbaa
open Go.RowKit

theorem val_snoc {t : List Nat} {j : Nat} (hl : t.length = j) (x : Nat) : Lm.val (t ++ [x]) = Lm.val t + 4294967296 ^ j * x := by
  rw [Lm.val_append, hl]; simp [Lm.val]
theorem add_snoc {t l k : List Nat} {j c : Nat} (hl : t.length = j) (h : Lm.val t + 4294967296 ^ j * c = Lm.val (l.take j) + Lm.val (k.take j)) :
    Lm.val (t ++ [(Lm.lg l j + Lm.lg k j + c) % 4294967296]) + 4294967296 ^ (j + 1) * ((Lm.lg l j + Lm.lg k j + c) / 4294967296) = Lm.val (l.take (j + 1)) + Lm.val (k.take (j + 1)) := by
  rw [val_snoc hl, Lm.val_take_succ l, Lm.val_take_succ k, Nat.pow_succ, Nat.mul_assoc]
  have e : (Lm.lg l j + Lm.lg k j + c) % 4294967296 + 4294967296 * ((Lm.lg l j + Lm.lg k j + c) / 4294967296) = Lm.lg l j + Lm.lg k j + c := Nat.mod_add_div _ _
  have e2 : 4294967296 ^ j * ((Lm.lg l j + Lm.lg k j + c) % 4294967296) + 4294967296 ^ j * (4294967296 * ((Lm.lg l j + Lm.lg k j + c) / 4294967296)) = 4294967296 ^ j * Lm.lg l j + 4294967296 ^ j * Lm.lg k j + 4294967296 ^ j * c := by
    rw [← Nat.mul_add, e, Nat.mul_add, Nat.mul_add]
  generalize 4294967296 ^ j * ((Lm.lg l j + Lm.lg k j + c) % 4294967296) = u at *
  generalize 4294967296 ^ j * (4294967296 * ((Lm.lg l j + Lm.lg k j + c) / 4294967296)) = v at *
  omega
theorem sub_snoc {t l k : List Nat} {j b x b' : Nat} (hl : t.length = j) (h : Lm.val (l.take j) + 4294967296 ^ j * b = Lm.val t + Lm.val (k.take j)) (hx : Lm.lg l j + 4294967296 * b' = x + Lm.lg k j + b) :
    Lm.val (l.take (j + 1)) + 4294967296 ^ (j + 1) * b' = Lm.val (t ++ [x]) + Lm.val (k.take (j + 1)) := by
  rw [val_snoc hl, Lm.val_take_succ l, Lm.val_take_succ k, Nat.pow_succ, Nat.mul_assoc]
  have e2 : 4294967296 ^ j * Lm.lg l j + 4294967296 ^ j * (4294967296 * b') = 4294967296 ^ j * x + 4294967296 ^ j * Lm.lg k j + 4294967296 ^ j * b := by
    rw [← Nat.mul_add, hx, Nat.mul_add, Nat.mul_add]
  generalize 4294967296 ^ j * (4294967296 * b') = v at *
  omega
theorem add_whole {t l k : List Nat} {N x : Nat} (hs : Lm.Small l) (hs' : Lm.Small k) (hl : l.length ≤ N) (hk : k.length ≤ N) (h : Lm.val t + 4294967296 ^ (N + 1) * x = Lm.val (l.take (N + 1)) + Lm.val (k.take (N + 1))) : Lm.val t = Lm.val l + Lm.val k := by
  rw [List.take_of_length_le (by omega), List.take_of_length_le (by omega)] at h
  have h1 : Lm.val l < 4294967296 ^ N := Nat.lt_of_lt_of_le (Lm.val_lt hs) (Nat.pow_le_pow_right (by decide) hl)
  have h2 : Lm.val k < 4294967296 ^ N := Nat.lt_of_lt_of_le (Lm.val_lt hs') (Nat.pow_le_pow_right (by decide) hk)
  have h3 : 4294967296 ^ (N + 1) = 4294967296 ^ N * 4294967296 := Nat.pow_succ ..
  generalize 4294967296 ^ (N + 1) = Q at *
  generalize 4294967296 ^ N = P at *
  generalize Lm.val l = u at *
  generalize Lm.val k = v at *
  generalize Lm.val t = y at *
  rcases Nat.eq_zero_or_pos x with h0 | h0
  · subst h0
    rw [Nat.mul_zero] at h
    omega
  · have h4 : Q * 1 ≤ Q * x := Nat.mul_le_mul_left _ h0
    generalize Q * x = q at *
    omega
theorem sub_whole {t l k : List Nat} {b : Nat} (hs : Lm.Small t) (ht : t.length = l.length) (hk : k.length ≤ l.length) (hle : Lm.val k ≤ Lm.val l)
    (h : Lm.val (l.take l.length) + 4294967296 ^ l.length * b = Lm.val t + Lm.val (k.take l.length)) : Lm.val t = Lm.val l - Lm.val k := by
  refine Lm.sub_end hs ht hk hle (b := b) ?_
  rw [List.take_of_length_le (l := t) (by omega)]
  exact h
theorem sub_wrap2 (a b x : Nat) (ha : a ≤ 4294967295) (hb : b ≤ 4294967295) (hx : x ≤ 1) :
    ∃ y b' : Nat, IntKind.u64.wrap (IntKind.u64.wrap ((a : Int) - b) - x) % 4294967296 = (y : Int) ∧ IntKind.u64.wrap (IntKind.u64.wrap ((a : Int) - b) - x) / 9223372036854775808 = (b' : Int) ∧ b' ≤ 1 ∧ y < 4294967296 ∧ a + 4294967296 * b' = y + b + x := by
  rw [IntKind.wrap_u64, IntKind.wrap_u64]
  refine ⟨((((a : Int) - b) % 18446744073709551616 - x) % 18446744073709551616 % 4294967296).toNat, ((((a : Int) - b) % 18446744073709551616 - x) % 18446744073709551616 / 9223372036854775808).toNat, ?_, ?_, ?_, ?_, ?_⟩ <;> omega
theorem arr_one (x : Nat) : (#[Value.int .u32 (x : Int)] : Array Value) = arr [x] := rfl
theorem one_small {x : Nat} (h : x < 4294967296) : Lm.Small [x] := by intro y hy; simp at hy; omega

/-- append(row, limb). -/
theorem append_one (w : World) (base : Nat) (A0 : Option Addr) (n0 c0 : Nat) (l0 : List Nat) (hown : Own w base A0 n0 c0 l0) (x : Nat) (hx : x < 4294967296) (hn : n0 + 1 ≤ 100000) (hbase : base ≤ w.heap.size) (ty : TypeId) :
    ∃ A' c' w', (Builtin.append_ #[22, 22] ty #[.slice A0 n0 c0, .slice (some ⟨w.heap.size, 0, none⟩) 1 1]).run Try.prog (w.alloc (.cells #[.int .u32 (x : Int)] 61)) = .ok (.slice A' (n0 + 1) c') w' ∧ Own w' base A' (n0 + 1) c' (l0 ++ [x]) ∧ Below base w w' := by
  have hA := (Below.refl w.heap.size w).alloc (Nat.le_refl _) (.cells #[.int .u32 (x : Int)] 61)
  obtain ⟨A', c', w', h1, h2, h3⟩ := append_lim (w.alloc (.cells #[.int .u32 (x : Int)] 61)) base A0 n0 c0 l0 (hown.below hA) (some ⟨w.heap.size, 0, none⟩) 1 1 [x] (Lim.new w [x] (one_small hx)) hn (Nat.le_trans hbase hA.size) ty
  exact ⟨A', c', w', h1, h2, (hA.mono hbase).trans h3⟩

end Go.Proofs.Ytompimbeaeinbaa

namespace Go.Proofs.Ytompimbeaeinbaa
open Go.RowKit

end Go.Proofs.Ytompimbeaeinbaa

namespace Go.Proofs.Ytompimbeaeinbaa
open Go.RowKit

end Go.Proofs.Ytompimbeaeinbaa

namespace Go.Proofs.Ytompimbeaeinbaa
open Go.RowKit

theorem set_drewN (w : World) (c : Array Value) (t : TypeId) (q i : Nat) (v : Value) : ((w.alloc (.cells c t)).drewN q).setCell ⟨w.heap.size, i, none⟩ v = (w.alloc (.cells (c.setIfInBounds i v) t)).drewN q := by
  show ((w.alloc (.cells c t)).setCell ⟨w.heap.size, i, none⟩ v).drewN q = _
  rw [World.setCell_alloc_at _ _ _ _ _ rfl]
theorem mul_wrap2 (x a b z : Nat) (h : x + (a * b + z) < 18446744073709551616) : IntKind.u64.wrap (IntKind.u64.wrap (IntKind.u64.wrap ((a : Int) * b) + z) + x) = ((x + (a * b + z) : Nat) : Int) := by
  rw [← Int.natCast_mul]
  generalize a * b = p at *
  rw [IntKind.wrap_u64, IntKind.wrap_u64, IntKind.wrap_u64]
  omega
theorem val_take_zeros {o : List Nat} {q : Nat} (h : ∀ p, q ≤ p → Lm.lg o p = 0) : Lm.val (o.take q) = Lm.val o := by
  have hd : ∀ m : List Nat, (∀ j, Lm.lg m j = 0) → Lm.val m = 0 := by
    intro m
    induction m with
    | nil => intro _; rfl
    | cons x m ih =>
      intro hm
      have hx : x = 0 := hm 0
      have hr := ih (fun j => by have := hm (j + 1); rwa [Lm.lg_succ] at this)
      simp only [Lm.val, hr, hx]
  conv => rhs; rw [← List.take_append_drop q o]
  rw [Lm.val_append, hd (o.drop q) (fun j => by
    have := h (q + j) (by omega)
    simp only [Lm.lg, List.getD_eq_getElem?_getD, List.getElem?_drop] at this ⊢
    exact this)]
  simp
theorem refmul_outer {t o l k : List Nat} {i m x : Nat} (hsl : Lm.Small l) (hsk : Lm.Small k) (hk : k.length = m)
    (hin : Lm.val (t.take (i + (m + 1))) + 4294967296 ^ (i + (m + 1)) * x = Lm.val (o.take (i + (m + 1))) + 4294967296 ^ i * (Lm.lg l i * Lm.val (k.take (m + 1))))
    (hold : ∀ p, i + (m + 1) ≤ p → Lm.lg t p = Lm.lg o p) (hinv : Lm.val o = Lm.val (l.take i) * Lm.val k) (hoz : ∀ p, i + m ≤ p → Lm.lg o p = 0) :
    Lm.val t = Lm.val (l.take (i + 1)) * Lm.val k ∧ ∀ p, i + 1 + m ≤ p → Lm.lg t p = 0 := by
  have hz : ∀ p, i + (m + 1) ≤ p → Lm.lg t p = 0 := fun p hp => by rw [hold p hp]; exact hoz p (by omega)
  refine ⟨?_, fun p hp => hz p (by omega)⟩
  rw [val_take_zeros hz, val_take_zeros (fun p hp => hoz p (by omega)), List.take_of_length_le (l := k) (by omega), hinv] at hin
  have hV : Lm.val (l.take i) * Lm.val k + 4294967296 ^ i * (Lm.lg l i * Lm.val k) = Lm.val (l.take (i + 1)) * Lm.val k := by
    rw [Lm.val_take_succ, Nat.add_mul, Nat.mul_assoc]
  rw [hV] at hin
  have b1 : Lm.val (l.take (i + 1)) < 4294967296 ^ (i + 1) := by
    refine Nat.lt_of_lt_of_le (Lm.val_lt (Lm.small_take hsl _)) (Nat.pow_le_pow_right (by decide) ?_)
    rw [List.length_take]; omega
  have b2 : Lm.val k < 4294967296 ^ m := by have := Lm.val_lt hsk; rwa [hk] at this
  have b3 : Lm.val (l.take (i + 1)) * Lm.val k < 4294967296 ^ (i + (m + 1)) := by
    rw [show i + (m + 1) = (i + 1) + m from by omega, Nat.pow_add]
    exact Nat.mul_lt_mul'' b1 b2
  generalize 4294967296 ^ (i + (m + 1)) = Q at *
  generalize Lm.val (l.take (i + 1)) * Lm.val k = V at *
  rcases Nat.eq_zero_or_pos x with h0 | h0
  · subst h0
    rw [Nat.mul_zero] at hin
    omega
  · have h4 : Q * 1 ≤ Q * x := Nat.mul_le_mul_left _ h0
    generalize Q * x = q at *
    omega
theorem lg_zeros (n p : Nat) : Lm.lg (List.replicate n 0) p = 0 := by
  simp only [Lm.lg, List.getD_eq_getElem?_getD, List.getElem?_replicate]
  split <;> rfl

end Go.Proofs.Ytompimbeaeinbaa

namespace Go.Proofs.Ytompimbeaeinbaa
open Go.RowKit

theorem or_u64' (v x : Nat) (hv : v ≤ 4294967295) (hx : x ≤ 4294967295) : bits .or .u64 ((v : Int) * 4294967296) (x : Int) = ((x + 4294967296 * v : Nat) : Int) := by
  have e : ((v : Int) * 4294967296) = ((v * 4294967296 : Nat) : Int) := by omega
  rw [e, bits_or_u64_nat _ _ (by omega) (by omega)]
  have h := Nat.shiftLeft_add_eq_or_of_lt (a := v) (b := x) (i := 32) (by omega)
  rw [Nat.shiftLeft_eq] at h
  rw [← h]
  congr 1
  omega
theorem val_drop_pred {l : List Nat} {j : Nat} (h0 : 0 < j) (hj : j ≤ l.length) : Lm.val (l.drop (j - 1)) = Lm.lg l (j - 1) + 4294967296 * Lm.val (l.drop j) := by
  obtain ⟨i, rfl⟩ : ∃ i, j = i + 1 := ⟨j - 1, by omega⟩
  rw [Nat.add_sub_cancel, List.drop_eq_getElem_cons (by omega), Lm.val]
  congr 1
  simp only [Lm.lg, List.getD_eq_getElem?_getD]
  rw [List.getElem?_eq_getElem (by omega)]
  rfl

end Go.Proofs.Ytompimbeaeinbaa
