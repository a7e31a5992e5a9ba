/-
  CONTRACTS OF THE LAWS' OWN FUNCTIONS ON INTEGERS (beehiveref1): may, plus, minus, Of.
-/
import Derived.Test.YtbpihjcghmmacaaRefA
namespace Go.Proofs.Ytbpihjcghmmacaa
open Go.RowKit

theorem val_snoc {t : List Nat} {j : Nat} (hl : t.length = j) (x : Nat) : Lm.val (t ++ [x]) = Lm.val t + 4294967296 ^ j * x := by
  rw [Lm.val_append, hl]; simp [Lm.val]
theorem add_snoc {t l k : List Nat} {j c : Nat} (hl : t.length = j) (h : Lm.val t + 4294967296 ^ j * c = Lm.val (l.take j) + Lm.val (k.take j)) :
    Lm.val (t ++ [(Lm.lg l j + Lm.lg k j + c) % 4294967296]) + 4294967296 ^ (j + 1) * ((Lm.lg l j + Lm.lg k j + c) / 4294967296) = Lm.val (l.take (j + 1)) + Lm.val (k.take (j + 1)) := by
  rw [val_snoc hl, Lm.val_take_succ l, Lm.val_take_succ k, Nat.pow_succ, Nat.mul_assoc]
  have e : (Lm.lg l j + Lm.lg k j + c) % 4294967296 + 4294967296 * ((Lm.lg l j + Lm.lg k j + c) / 4294967296) = Lm.lg l j + Lm.lg k j + c := Nat.mod_add_div _ _
  have e2 : 4294967296 ^ j * ((Lm.lg l j + Lm.lg k j + c) % 4294967296) + 4294967296 ^ j * (4294967296 * ((Lm.lg l j + Lm.lg k j + c) / 4294967296)) = 4294967296 ^ j * Lm.lg l j + 4294967296 ^ j * Lm.lg k j + 4294967296 ^ j * c := by
    rw [← Nat.mul_add, e, Nat.mul_add, Nat.mul_add]
  generalize 4294967296 ^ j * ((Lm.lg l j + Lm.lg k j + c) % 4294967296) = u at *
  generalize 4294967296 ^ j * (4294967296 * ((Lm.lg l j + Lm.lg k j + c) / 4294967296)) = v at *
  omega
theorem sub_snoc {t l k : List Nat} {j b x b' : Nat} (hl : t.length = j) (h : Lm.val (l.take j) + 4294967296 ^ j * b = Lm.val t + Lm.val (k.take j)) (hx : Lm.lg l j + 4294967296 * b' = x + Lm.lg k j + b) :
    Lm.val (l.take (j + 1)) + 4294967296 ^ (j + 1) * b' = Lm.val (t ++ [x]) + Lm.val (k.take (j + 1)) := by
  rw [val_snoc hl, Lm.val_take_succ l, Lm.val_take_succ k, Nat.pow_succ, Nat.mul_assoc]
  have e2 : 4294967296 ^ j * Lm.lg l j + 4294967296 ^ j * (4294967296 * b') = 4294967296 ^ j * x + 4294967296 ^ j * Lm.lg k j + 4294967296 ^ j * b := by
    rw [← Nat.mul_add, hx, Nat.mul_add, Nat.mul_add]
  generalize 4294967296 ^ j * (4294967296 * b') = v at *
  omega
theorem add_whole {t l k : List Nat} {N x : Nat} (hs : Lm.Small l) (hs' : Lm.Small k) (hl : l.length ≤ N) (hk : k.length ≤ N) (h : Lm.val t + 4294967296 ^ (N + 1) * x = Lm.val (l.take (N + 1)) + Lm.val (k.take (N + 1))) : Lm.val t = Lm.val l + Lm.val k := by
  rw [List.take_of_length_le (by omega), List.take_of_length_le (by omega)] at h
  have h1 : Lm.val l < 4294967296 ^ N := Nat.lt_of_lt_of_le (Lm.val_lt hs) (Nat.pow_le_pow_right (by decide) hl)
  have h2 : Lm.val k < 4294967296 ^ N := Nat.lt_of_lt_of_le (Lm.val_lt hs') (Nat.pow_le_pow_right (by decide) hk)
  have h3 : 4294967296 ^ (N + 1) = 4294967296 ^ N * 4294967296 := Nat.pow_succ ..
  generalize 4294967296 ^ (N + 1) = Q at *
  generalize 4294967296 ^ N = P at *
  generalize Lm.val l = u at *
  generalize Lm.val k = v at *
  generalize Lm.val t = y at *
  rcases Nat.eq_zero_or_pos x with h0 | h0
  · subst h0
    rw [Nat.mul_zero] at h
    omega
  · have h4 : Q * 1 ≤ Q * x := Nat.mul_le_mul_left _ h0
    generalize Q * x = q at *
    omega
theorem sub_whole {t l k : List Nat} {b : Nat} (hs : Lm.Small t) (ht : t.length = l.length) (hk : k.length ≤ l.length) (hle : Lm.val k ≤ Lm.val l)
    (h : Lm.val (l.take l.length) + 4294967296 ^ l.length * b = Lm.val t + Lm.val (k.take l.length)) : Lm.val t = Lm.val l - Lm.val k := by
  refine Lm.sub_end hs ht hk hle (b := b) ?_
  rw [List.take_of_length_le (l := t) (by omega)]
  exact h
theorem sub_wrap2 (a b x : Nat) (ha : a ≤ 4294967295) (hb : b ≤ 4294967295) (hx : x ≤ 1) :
    ∃ y b' : Nat, IntKind.u64.wrap (IntKind.u64.wrap ((a : Int) - b) - x) % 4294967296 = (y : Int) ∧ IntKind.u64.wrap (IntKind.u64.wrap ((a : Int) - b) - x) / 9223372036854775808 = (b' : Int) ∧ b' ≤ 1 ∧ y < 4294967296 ∧ a + 4294967296 * b' = y + b + x := by
  rw [IntKind.wrap_u64, IntKind.wrap_u64]
  refine ⟨((((a : Int) - b) % 18446744073709551616 - x) % 18446744073709551616 % 4294967296).toNat, ((((a : Int) - b) % 18446744073709551616 - x) % 18446744073709551616 / 9223372036854775808).toNat, ?_, ?_, ?_, ?_, ?_⟩ <;> omega
theorem arr_one (x : Nat) : (#[Value.int .u32 (x : Int)] : Array Value) = arr [x] := rfl
theorem one_small {x : Nat} (h : x < 4294967296) : Lm.Small [x] := by intro y hy; simp at hy; omega

/-- append(row, limb). -/
theorem append_one (w : World) (base : Nat) (A0 : Option Addr) (n0 c0 : Nat) (l0 : List Nat) (hown : Own w base A0 n0 c0 l0) (x : Nat) (hx : x < 4294967296) (hn : n0 + 1 ≤ 100000) (hbase : base ≤ w.heap.size) (ty : TypeId) :
    ∃ A' c' w', (Builtin.append_ #[22, 22] ty #[.slice A0 n0 c0, .slice (some ⟨w.heap.size, 0, none⟩) 1 1]).run Try.prog (w.alloc (.cells #[.int .u32 (x : Int)] 50)) = .ok (.slice A' (n0 + 1) c') w' ∧ Own w' base A' (n0 + 1) c' (l0 ++ [x]) ∧ Below base w w' := by
  have hA := (Below.refl w.heap.size w).alloc (Nat.le_refl _) (.cells #[.int .u32 (x : Int)] 50)
  obtain ⟨A', c', w', h1, h2, h3⟩ := append_lim (w.alloc (.cells #[.int .u32 (x : Int)] 50)) base A0 n0 c0 l0 (hown.below hA) (some ⟨w.heap.size, 0, none⟩) 1 1 [x] (Lim.new w [x] (one_small hx)) hn (Nat.le_trans hbase hA.size) ty
  exact ⟨A', c', w', h1, h2, (hA.mono hbase).trans h3⟩

end Go.Proofs.Ytbpihjcghmmacaa
