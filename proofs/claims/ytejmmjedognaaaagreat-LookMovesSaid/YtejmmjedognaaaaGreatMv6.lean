/-
  PLAIN MATHEMATICS OF THE ENCODING: numbers as bytes, terms as bytes, and back. Nothing of the program stands here.
  PLAIN MATHEMATICS OF LIMBS: lists of numbers below 2^32, what they come to, their digits. Nothing of the program stands here.
  PLAIN MATHEMATICS OF THE LOOPS OVER LIMBS: sums, differences, products. Nothing of the program stands here.
-/
import Derived.Test.YtejmmjedognaaaaGreatMv5
namespace Go.Proofs.YtejmmjedognaaaaGreat
namespace Wr

/-- So many bytes of a number, the greatest one first. -/
def bes (n : Nat) : Nat → List Nat
  | 0 => []
  | k + 1 => n / 256 ^ k % 256 :: bes n k
/-- The number of bytes. -/
def beq (l : List Nat) : Nat := l.foldl (fun n x => n * 256 + x) 0
def Small (l : List Nat) : Prop := ∀ x ∈ l, x < 256
set_option maxRecDepth 100000 in
theorem small_nil : Small [] := fun _ h => nomatch h
set_option maxRecDepth 100000 in
theorem small_append {a b : List Nat} : Small (a ++ b) ↔ Small a ∧ Small b := by
  constructor
  · exact fun h => ⟨fun x hx => h x (by simp [hx]), fun x hx => h x (by simp [hx])⟩
  · intro h x hx
    rcases List.mem_append.1 hx with hx | hx
    · exact h.1 x hx
    · exact h.2 x hx
set_option maxRecDepth 100000 in
theorem small_take {l : List Nat} (h : Small l) (k : Nat) : Small (l.take k) := fun x hx => h x (List.mem_of_mem_take hx)
set_option maxRecDepth 100000 in
theorem small_drop {l : List Nat} (h : Small l) (k : Nat) : Small (l.drop k) := fun x hx => h x (List.mem_of_mem_drop hx)
set_option maxRecDepth 100000 in
theorem bes_len (n k : Nat) : (bes n k).length = k := by
  induction k with
  | zero => rfl
  | succ k ih => simp [bes, ih]
set_option maxRecDepth 100000 in
theorem bes_small (n k : Nat) : Small (bes n k) := by
  induction k with
  | zero => exact small_nil
  | succ k ih =>
    intro x hx
    rcases List.mem_cons.1 hx with rfl | hx
    · omega
    · exact ih x hx
set_option maxRecDepth 100000 in
theorem fold_add (l : List Nat) (a : Nat) : l.foldl (fun n x => n * 256 + x) a = a * 256 ^ l.length + beq l := by
  unfold beq
  induction l generalizing a with
  | nil => simp
  | cons x r ih =>
    rw [List.foldl_cons, ih, List.foldl_cons, ih (0 * 256 + x), List.length_cons, Nat.pow_succ]
    have e1 : (a * 256 + x) * 256 ^ r.length = a * (256 ^ r.length * 256) + x * 256 ^ r.length := by rw [Nat.add_mul, Nat.mul_assoc, Nat.mul_comm 256]
    have e2 : (0 * 256 + x) * 256 ^ r.length = x * 256 ^ r.length := by rw [Nat.zero_mul, Nat.zero_add]
    omega
set_option maxRecDepth 100000 in
theorem beq_cons (x : Nat) (r : List Nat) : beq (x :: r) = x * 256 ^ r.length + beq r := by
  have := fold_add r (0 * 256 + x)
  rw [Nat.zero_mul, Nat.zero_add] at this
  unfold beq
  rw [List.foldl_cons, Nat.zero_mul, Nat.zero_add, this]
  rfl
set_option maxRecDepth 100000 in
theorem beq_snoc (r : List Nat) (x : Nat) : beq (r ++ [x]) = beq r * 256 + x := by simp [beq]
set_option maxRecDepth 100000 in
theorem beq_lt {l : List Nat} (h : Small l) : beq l < 256 ^ l.length := by
  induction l with
  | nil => simp [beq]
  | cons x r ih =>
    have h1 := ih fun y hy => h y (by simp [hy])
    have h2 : x < 256 := h x (by simp)
    rw [beq_cons, List.length_cons, Nat.pow_succ]
    have h3 : (x + 1) * 256 ^ r.length ≤ 256 * 256 ^ r.length := Nat.mul_le_mul_right _ (by omega)
    rw [Nat.add_mul, Nat.one_mul] at h3
    rw [Nat.mul_comm (256 ^ r.length)]
    omega
set_option maxRecDepth 100000 in
theorem beq_bes (n k : Nat) : beq (bes n k) = n % 256 ^ k := by
  induction k with
  | zero => simp [bes, beq, Nat.mod_one]
  | succ k ih =>
    rw [bes, beq_cons, ih, bes_len, Nat.mul_comm, Nat.pow_succ]
    rw [Nat.mod_mul]
    omega
set_option maxRecDepth 100000 in
theorem bes_beq_aux (x : Nat) (q : Nat) : ∀ k, bes (q * 256 ^ k + x) k = bes x k
  | 0 => rfl
  | k + 1 => by
    rw [bes, bes]
    have e1 : q * 256 ^ (k + 1) = (q * 256) * 256 ^ k := by rw [Nat.pow_succ, Nat.mul_comm (256 ^ k), Nat.mul_assoc]
    rw [e1, bes_beq_aux x (q * 256) k]
    congr 1
    have hp : 0 < 256 ^ k := Nat.pow_pos (by omega)
    rw [Nat.add_comm, Nat.add_mul_div_right _ _ hp]
    omega
set_option maxRecDepth 100000 in
theorem bes_beq {l : List Nat} (h : Small l) : bes (beq l) l.length = l := by
  induction l with
  | nil => rfl
  | cons x r ih =>
    have hr : Small r := fun y hy => h y (by simp [hy])
    have h2 : x < 256 := h x (by simp)
    rw [List.length_cons, bes, beq_cons, bes_beq_aux, ih hr]
    have hp : 0 < 256 ^ r.length := Nat.pow_pos (by omega)
    have hl := beq_lt hr
    rw [Nat.add_comm, Nat.add_mul_div_right _ _ hp, Nat.div_eq_of_lt hl]
    congr 1
    omega

/-- The bytes of limbs. -/
def limbs (l : List Nat) : List Nat := l.flatMap fun x => bes x 4
set_option maxRecDepth 100000 in
theorem limbs_snoc (l : List Nat) (x : Nat) : limbs (l ++ [x]) = limbs l ++ bes x 4 := by simp [limbs]
set_option maxRecDepth 100000 in
theorem limbs_len (l : List Nat) : (limbs l).length = 4 * l.length := by
  induction l with
  | nil => rfl
  | cons x r ih => simp only [limbs, List.flatMap_cons, List.length_append, bes_len, List.length_cons] at ih ⊢; omega
set_option maxRecDepth 100000 in
theorem limbs_small (l : List Nat) : Small (limbs l) := by
  intro x hx
  obtain ⟨y, _, hy⟩ := List.mem_flatMap.1 hx
  exact bes_small y 4 x hy

/-- Letters as numbers, and back. -/
def txt (s : ByteArray) : List Nat := s.data.toList.map UInt8.toNat
def str (l : List Nat) : ByteArray := ⟨(l.map UInt8.ofNat).toArray⟩
set_option maxRecDepth 100000 in
theorem txt_len (s : ByteArray) : (txt s).length = s.size := by rw [txt, List.length_map, Array.length_toList]; rfl
set_option maxRecDepth 100000 in
theorem txt_small (s : ByteArray) : Small (txt s) := by
  intro x hx
  obtain ⟨y, _, rfl⟩ := List.mem_map.1 hx
  exact y.toNat_lt
set_option maxRecDepth 100000 in
theorem txt_str {l : List Nat} (h : Small l) : txt (str l) = l := by
  simp only [txt, str, List.map_map]
  conv => rhs; rw [← List.map_id l]
  apply List.map_congr_left
  intro x hx
  have := h x hx
  show (UInt8.ofNat x).toNat = x
  rw [UInt8.toNat_ofNat']
  exact Nat.mod_eq_of_lt this
set_option maxRecDepth 100000 in
theorem str_txt (s : ByteArray) : str (txt s) = s := by
  simp only [txt, str, List.map_map]
  apply ByteArray.ext
  apply Array.ext'
  show List.map _ _ = _
  conv => rhs; rw [← List.map_id s.data.toList]
  apply List.map_congr_left
  intro x _
  simp
set_option maxRecDepth 100000 in
theorem str_size (l : List Nat) : (str l).size = l.length := by simp [str, ByteArray.size]

/-- What stands between a term's kind and its arguments. -/
def body (k n : Int) (g : Bool) (l : List Nat) (u : Int) (s : ByteArray) (m : Nat) : List Nat :=
  if k = 1 then bes (n % 18446744073709551616).toNat 8
  else if k = 2 then (if g then 1 else 0) :: l.length % 256 :: limbs l
  else if k = 3 then bes u.toNat 8
  else if k = 4 ∨ k = 5 then [(n % 256).toNat]
  else if k = 6 then [m % 256]
  else if k = 9 then bes s.size 2 ++ txt s
  else []
set_option maxRecDepth 100000 in
theorem body_small (k n : Int) (g : Bool) (l : List Nat) (u : Int) (s : ByteArray) (m : Nat) : Small (body k n g l u s m) := by
  unfold body
  split
  · exact bes_small _ _
  split
  · intro x hx
    simp only [List.mem_cons] at hx
    rcases hx with rfl | rfl | hx
    · split <;> omega
    · omega
    · exact limbs_small l x hx
  split
  · exact bes_small _ _
  split
  · intro x hx
    simp only [List.mem_singleton] at hx
    omega
  split
  · intro x hx
    simp only [List.mem_singleton] at hx
    omega
  split
  · exact small_append.2 ⟨bes_small _ _, txt_small s⟩
  · exact small_nil
set_option maxRecDepth 100000 in
theorem body_len (k n : Int) (g : Bool) (l : List Nat) (u : Int) (s : ByteArray) (m : Nat) : (body k n g l u s m).length ≤ 8 + 4 * l.length + s.size := by
  unfold body
  split
  · rw [bes_len]; omega
  split
  · simp only [List.length_cons, limbs_len]; omega
  split
  · rw [bes_len]; omega
  split
  · simp only [List.length_cons, List.length_nil]; omega
  split
  · simp only [List.length_cons, List.length_nil]; omega
  split
  · rw [List.length_append, bes_len, txt_len]; omega
  · simp

mutual
/-- A term's bytes. -/
def enc : Tm → List Nat
  | .mk k n g l u s ks => (k % 256).toNat :: (body k n g l u s ks.length ++ encs ks)
def encs : List Tm → List Nat
  | [] => []
  | t :: r => enc t ++ encs r
end
set_option maxRecDepth 100000 in
theorem enc_eq (t : Tm) : enc t = (t.kind % 256).toNat :: (body t.kind t.num t.neg t.mag t.bits t.bytes t.args.length ++ encs t.args) := by cases t; rw [enc]; rfl
set_option maxRecDepth 100000 in
theorem encs_append (a b : List Tm) : encs (a ++ b) = encs a ++ encs b := by
  induction a with
  | nil => simp [encs]
  | cons t r ih => simp [encs, ih]
set_option maxRecDepth 100000 in
theorem encs_take {ts : List Tm} {j : Nat} {t : Tm} (h : ts[j]? = some t) : encs (ts.take (j + 1)) = encs (ts.take j) ++ enc t := by
  rw [List.take_add_one, h, encs_append]
  simp [encs]
set_option maxRecDepth 100000 in
theorem encs_le (ts : List Tm) (j : Nat) : (encs (ts.take j)).length ≤ (encs ts).length := by
  have := encs_append (ts.take j) (ts.drop j)
  rw [List.take_append_drop] at this
  rw [this, List.length_append]
  omega
set_option maxRecDepth 100000 in
theorem encs_small {ts : List Tm} (h : ∀ t ∈ ts, Small (enc t)) : Small (encs ts) := by
  induction ts with
  | nil => rw [encs]; exact small_nil
  | cons t r ih => rw [encs]; exact small_append.2 ⟨h t (by simp), ih fun x hx => h x (by simp [hx])⟩
set_option maxRecDepth 100000 in
theorem enc_small (t : Tm) : Small (enc t) := by
  induction t using Tm.ind with
  | h k n g l u s ks ih =>
    rw [enc]
    intro x hx
    rcases List.mem_cons.1 hx with rfl | hx
    · omega
    · exact small_append.2 ⟨body_small _ _ _ _ _ _ _, encs_small ih⟩ x hx
set_option maxRecDepth 100000 in
theorem enc_len (t : Tm) : t.Ok → (enc t).length ≤ 70000 * t.size := by
  induction t using Tm.ind with
  | h k n g l u s ks ih =>
    intro ho
    have ho := Tm.ok_mk.1 ho
    have hs : ∀ xs : List Tm, (∀ x ∈ xs, x ∈ ks) → (encs xs).length ≤ 70000 * Tm.size.sizes xs := by
      intro xs
      induction xs with
      | nil => intro _; simp [encs]
      | cons x r ihr =>
        intro hx
        have h1 := ih x (hx x (by simp)) (ho.2.2 x (hx x (by simp)))
        have h2 := ihr fun y hy => hx y (by simp [hy])
        rw [encs, List.length_append, Tm.size.sizes]
        omega
    have h1 := hs ks fun _ h => h
    have h2 := body_len k n g l u s ks.length
    rw [enc, Tm.size, List.length_cons, List.length_append]
    omega
set_option maxRecDepth 100000 in
theorem enc_pos (t : Tm) : 0 < (enc t).length := by cases t; rw [enc]; simp

mutual
/-- All limbs are limbs, and all bits are bits of a word. -/
def Fit : Tm → Prop
  | .mk _ _ _ l u _ ks => (∀ x ∈ l, x < 4294967296) ∧ 0 ≤ u ∧ u < 18446744073709551616 ∧ Fits ks
def Fits : List Tm → Prop
  | [] => True
  | t :: r => Fit t ∧ Fits r
end
set_option maxRecDepth 100000 in
theorem fits_iff {ts : List Tm} : Fits ts ↔ ∀ t ∈ ts, Fit t := by
  induction ts with
  | nil => simp [Fits]
  | cons t r ih => simp [Fits, ih]
set_option maxRecDepth 100000 in
theorem fit_mk {k n : Int} {g : Bool} {l : List Nat} {u : Int} {s : ByteArray} {ks : List Tm} : Fit (.mk k n g l u s ks) ↔ (∀ x ∈ l, x < 4294967296) ∧ 0 ≤ u ∧ u < 18446744073709551616 ∧ ∀ t ∈ ks, Fit t := by
  rw [Fit, fits_iff]
set_option maxRecDepth 100000 in
theorem sizes_append (a b : List Tm) : Tm.size.sizes (a ++ b) = Tm.size.sizes a + Tm.size.sizes b := by
  induction a with
  | nil => simp [Tm.size.sizes]
  | cons t r ih => simp only [List.cons_append, Tm.size.sizes, ih]; omega

/-! ### Back -/
/-- The number of so many bytes from a place on. -/
def val (B : List Nat) (a m : Nat) : Nat := beq ((B.drop a).take m)
def limbsAt (B : List Nat) (a m : Nat) : List Nat := (List.range m).map fun i => val B (a + 4 * i) 4
def si64 (x : Nat) : Int := if x < 9223372036854775808 then (x : Int) else (x : Int) - 18446744073709551616
/-- So many, one behind the other. -/
def decs (D : Nat → Nat → Option (Tm × Nat × Nat)) : Nat → Nat → Nat → Option (List Tm × Nat × Nat)
  | 0, p, a => some ([], p, a)
  | m + 1, p, a => (decs D m p a).bind fun x => (D x.2.1 x.2.2).map fun y => (x.1 ++ [y.1], y.2)
/-- The term that stands at a place, how many parts may come behind it, and where it ends. -/
def dec (S : Bool) (B : List Nat) : Nat → Nat → Nat → Option (Tm × Nat × Nat)
  | 0, _, _ => none
  | f + 1, p, a =>
    if p = 0 ∨ B.length < a + 1 then none
    else if val B a 1 = 1 then (if B.length < a + 9 then none else some (.mk 1 (si64 (val B (a + 1) 8)) false [] 0 ⟨#[]⟩ [], p - 1, a + 9))
    else if val B a 1 = 2 then
      (if B.length < a + 2 ∨ 1 < val B (a + 1) 1 ∨ B.length < a + 3 ∨ B.length < a + 3 + 4 * val B (a + 2) 1 then none
       else some (.mk 2 0 (decide (val B (a + 1) 1 = 1)) (limbsAt B (a + 3) (val B (a + 2) 1)) 0 ⟨#[]⟩ [], p - 1, a + 3 + 4 * val B (a + 2) 1))
    else if val B a 1 = 3 then (if B.length < a + 9 then none else some (.mk 3 0 false [] (val B (a + 1) 8) ⟨#[]⟩ [], p - 1, a + 9))
    else if val B a 1 = 4 ∨ val B a 1 = 5 then (if B.length < a + 2 then none else some (.mk (val B a 1) (val B (a + 1) 1) false [] 0 ⟨#[]⟩ [], p - 1, a + 2))
    else if val B a 1 = 6 then (if B.length < a + 2 then none else (decs (dec S B f) (val B (a + 1) 1) (p - 1) (a + 2)).map fun x => (.mk 6 0 false [] 0 ⟨#[]⟩ x.1, x.2))
    else if val B a 1 = 7 then some (.mk 7 0 false [] 0 ⟨#[]⟩ [], p - 1, a + 1)
    else if val B a 1 = 8 then (decs (dec S B f) 2 (p - 1) (a + 1)).map fun x => (.mk 8 0 false [] 0 ⟨#[]⟩ x.1, x.2)
    else if val B a 1 = 9 then
      (if B.length < a + 3 ∨ B.length < a + 3 + val B (a + 1) 2 then none
       else some (.mk 9 0 false [] 0 (str ((B.drop (a + 3)).take (val B (a + 1) 2))) [], p - 1, a + 3 + val B (a + 1) 2))
    else if S then none else some (.mk (val B a 1) 0 false [] 0 ⟨#[]⟩ [], p - 1, a + 1)

set_option maxRecDepth 100000 in
theorem decs_none {D : Nat → Nat → Option (Tm × Nat × Nat)} {j p a : Nat} (h : decs D j p a = none) : ∀ m, j ≤ m → decs D m p a = none := by
  intro m hm
  induction m with
  | zero => have : j = 0 := by omega
            subst this; exact h
  | succ m ih =>
    by_cases e : j = m + 1
    · subst e; exact h
    · rw [decs, ih (by omega)]; rfl
set_option maxRecDepth 100000 in
theorem decs_step {D : Nat → Nat → Option (Tm × Nat × Nat)} {j p a : Nat} {ts : List Tm} {q c : Nat} (h : decs D j p a = some (ts, q, c)) : decs D (j + 1) p a = (D q c).map fun y => (ts ++ [y.1], y.2) := by rw [decs, h]; rfl
set_option maxRecDepth 100000 in
theorem decs_len {D : Nat → Nat → Option (Tm × Nat × Nat)} : ∀ {m p a : Nat} {ts : List Tm} {q c : Nat}, decs D m p a = some (ts, q, c) → ts.length = m
  | 0, _, _, _, _, _, h => by simp [decs] at h; simp [← h.1]
  | m + 1, p, a, ts, q, c, h => by
    rw [decs] at h
    cases e : decs D m p a with
    | none => rw [e] at h; cases h
    | some x =>
      rw [e] at h
      obtain ⟨xs, q', c'⟩ := x
      have := decs_len e
      simp only [Option.bind_some, Option.map_eq_some_iff, Prod.mk.injEq] at h
      obtain ⟨y, _, h, _⟩ := h
      rw [← h]
      simp [this]
set_option maxRecDepth 100000 in
theorem val_lt {B : List Nat} (h : Small B) (a m : Nat) : val B a m < 256 ^ m := by
  have h1 := beq_lt (small_take (small_drop h a) m)
  have h2 : 256 ^ ((B.drop a).take m).length ≤ 256 ^ m := Nat.pow_le_pow_right (by omega) (List.length_take_le _ _)
  unfold val
  omega
set_option maxRecDepth 100000 in
theorem bes_val {B : List Nat} (h : Small B) {a m : Nat} (hm : a + m ≤ B.length) : bes (val B a m) m = (B.drop a).take m := by
  have h1 := bes_beq (small_take (small_drop h a) m)
  rw [List.length_take, List.length_drop, Nat.min_eq_left (by omega)] at h1
  exact h1
set_option maxRecDepth 100000 in
theorem val_one {B : List Nat} {a : Nat} (h : a < B.length) : val B a 1 = B.getD a 0 ∧ (B.drop a).take 1 = [B.getD a 0] := by
  have e : (B.drop a).take 1 = [B.getD a 0] := by
    rw [List.drop_eq_getElem_cons h, List.take_succ_cons, List.take_zero, List.getD_eq_getElem?_getD, List.getElem?_eq_getElem h]
    rfl
  exact ⟨by unfold val; rw [e]; simp [beq], e⟩
set_option maxRecDepth 100000 in
/-- Two pieces, one behind the other. -/
theorem piece (B : List Nat) (a m n : Nat) : (B.drop a).take (m + n) = (B.drop a).take m ++ (B.drop (a + m)).take n := by
  rw [List.take_add, List.drop_drop]
set_option maxRecDepth 100000 in
theorem limbs_at {B : List Nat} (h : Small B) (a : Nat) : ∀ m, a + 4 * m ≤ B.length → limbs (limbsAt B a m) = (B.drop a).take (4 * m)
  | 0, _ => by simp [limbsAt, limbs]
  | m + 1, hm => by
    have ih := limbs_at h a m (by omega)
    unfold limbsAt at ih ⊢
    rw [List.range_succ, List.map_append, List.map_singleton, limbs_snoc, ih, bes_val h (by omega), show 4 * (m + 1) = 4 * m + 4 from rfl, piece]
set_option maxRecDepth 100000 in
theorem limbsAt_len (B : List Nat) (a m : Nat) : (limbsAt B a m).length = m := by simp [limbsAt]
set_option maxRecDepth 100000 in
theorem limbsAt_lt {B : List Nat} (h : Small B) (a m : Nat) : ∀ x ∈ limbsAt B a m, x < 4294967296 := by
  intro x hx
  obtain ⟨i, _, rfl⟩ := List.mem_map.1 hx
  exact val_lt h (a + 4 * i) 4
set_option maxRecDepth 100000 in
theorem si_enc (x : Nat) (h : x < 18446744073709551616) : (si64 x % 18446744073709551616).toNat = x := by
  unfold si64
  split <;> omega

set_option maxRecDepth 100000 in
/-- What is read stands there, as it would be laid. -/
theorem dec_back {S : Bool} {B : List Nat} (hB : Small B) : ∀ (f p a : Nat) (t : Tm) (q c : Nat), dec S B f p a = some (t, q, c) →
    a ≤ c ∧ c ≤ B.length ∧ q + t.size = p ∧ (t.Ok ∧ Fit t) ∧ enc t = (B.drop a).take (c - a) := by
  intro f
  induction f with
  | zero => intro p a t q c h; simp [dec] at h
  | succ f ih =>
    intro p a t q c h
    have hs : ∀ (m p a : Nat) (ts : List Tm) (q c : Nat), decs (dec S B f) m p a = some (ts, q, c) → a ≤ B.length → a ≤ c ∧ c ≤ B.length ∧ q + Tm.size.sizes ts = p ∧ (∀ t ∈ ts, t.Ok ∧ Fit t) ∧ encs ts = (B.drop a).take (c - a) := by
      intro m
      induction m with
      | zero =>
        intro p a ts q c h ha
        simp only [decs, Option.some.injEq, Prod.mk.injEq] at h
        obtain ⟨rfl, rfl, rfl⟩ := h
        exact ⟨Nat.le_refl _, ha, rfl, fun _ h => (nomatch h), by simp [encs]⟩
      | succ m ihm =>
        intro p a ts q c h ha
        rw [decs] at h
        cases e : decs (dec S B f) m p a with
        | none => rw [e] at h; cases h
        | some x =>
          obtain ⟨xs, q', c'⟩ := x
          rw [e] at h
          simp only [Option.bind_some, Option.map_eq_some_iff, Prod.mk.injEq, Prod.exists] at h
          obtain ⟨y, q'', c'', h, rfl, rfl, rfl⟩ := h
          obtain ⟨a1, a2, a3, a4, a5⟩ := ihm p a xs q' c' e ha
          obtain ⟨b1, b2, b3, b4, b5⟩ := ih q' c' y q'' c'' h
          refine ⟨by omega, b2, by rw [sizes_append, Tm.size.sizes, Tm.size.sizes]; omega, ?_, ?_⟩
          · intro t ht
            rcases List.mem_append.1 ht with ht | ht
            · exact a4 t ht
            · simp at ht; rw [ht]; exact b4
          · rw [encs_append, a5, encs, encs, List.append_nil, b5, show c'' - a = (c' - a) + (c'' - c') from by omega, piece, show a + (c' - a) = c' from by omega]
    rw [dec] at h
    by_cases h0 : p = 0 ∨ B.length < a + 1
    · rw [if_pos h0] at h; cases h
    rw [if_neg h0] at h
    have hv := (val_one (B := B) (a := a) (by omega))
    have hk : val B a 1 < 256 := val_lt hB a 1
    have hd : ∀ n, (B.drop a).take (1 + n) = val B a 1 :: (B.drop (a + 1)).take n := fun n => by rw [piece, hv.2, hv.1]; rfl
    generalize val B a 1 = k at *
    have hkk : ((k : Int) % 256).toNat = k := by omega
    by_cases h1 : k = 1
    · rw [if_pos h1] at h
      split at h
      · cases h
      · cases h
        refine ⟨by omega, by omega, by simp only [Tm.size, Tm.size.sizes]; omega, ⟨Tm.ok_mk.2 ⟨by simp, by simp [ByteArray.size], by simp⟩, fit_mk.2 ⟨by simp, by omega, by omega, by simp⟩⟩, ?_⟩
        rw [show a + 9 - a = 1 + 8 from by omega, hd, ← bes_val hB (by omega), h1, enc, body, if_pos rfl, si_enc _ (val_lt hB (a + 1) 8), encs, List.append_nil]
        rfl
    rw [if_neg h1] at h
    by_cases h2 : k = 2
    · rw [if_pos h2] at h
      split at h
      · cases h
      · cases h
        rename_i hc
        simp only [not_or, Nat.not_lt] at hc
        have hm : val B (a + 2) 1 < 256 := val_lt hB (a + 2) 1
        refine ⟨by omega, by omega, by simp only [Tm.size, Tm.size.sizes]; omega, ⟨Tm.ok_mk.2 ⟨by rw [limbsAt_len]; omega, by simp [ByteArray.size], by simp⟩, fit_mk.2 ⟨limbsAt_lt hB _ _, by omega, by omega, by simp⟩⟩, ?_⟩
        have w1 := val_one (B := B) (a := a + 1) (by omega)
        have w2 := val_one (B := B) (a := a + 2) (by omega)
        rw [show a + 3 + 4 * val B (a + 2) 1 - a = 1 + (1 + (1 + 4 * val B (a + 2) 1)) from by omega, hd, piece B (a + 1), w1.2, piece B (a + 1 + 1), w2.2, ← w1.1, ← w2.1, show a + 1 + 1 + 1 = a + 3 from rfl, ← limbs_at hB _ _ (by omega)]
        rw [h2, enc, body, if_neg (by omega), if_pos rfl, limbsAt_len, Nat.mod_eq_of_lt hm, encs, List.append_nil]
        have : (if decide (val B (a + 1) 1 = 1) = true then 1 else 0) = val B (a + 1) 1 := by
          by_cases e : val B (a + 1) 1 = 1
          · simp [e]
          · simp [e]; omega
        rw [this]
        rfl
    rw [if_neg h2] at h
    by_cases h3 : k = 3
    · rw [if_pos h3] at h
      split at h
      · cases h
      · cases h
        refine ⟨by omega, by omega, by simp only [Tm.size, Tm.size.sizes]; omega, ⟨Tm.ok_mk.2 ⟨by simp, by simp [ByteArray.size], by simp⟩, fit_mk.2 ⟨by simp, by omega, by have : val B (a + 1) 8 < 256 ^ 8 := val_lt hB (a + 1) 8; omega, by simp⟩⟩, ?_⟩
        rw [show a + 9 - a = 1 + 8 from by omega, hd, ← bes_val hB (by omega), h3, enc, body, if_neg (by omega), if_neg (by omega), if_pos rfl, Int.toNat_natCast, encs, List.append_nil]
        rfl
    rw [if_neg h3] at h
    by_cases h4 : k = 4 ∨ k = 5
    · rw [if_pos h4] at h
      split at h
      · cases h
      · cases h
        have w1 := val_one (B := B) (a := a + 1) (by omega)
        have hm : val B (a + 1) 1 < 256 := val_lt hB (a + 1) 1
        refine ⟨by omega, by omega, by simp only [Tm.size, Tm.size.sizes]; omega, ⟨Tm.ok_mk.2 ⟨by simp, by simp [ByteArray.size], by simp⟩, fit_mk.2 ⟨by simp, by omega, by omega, by simp⟩⟩, ?_⟩
        rw [show a + 2 - a = 1 + 1 from by omega, hd, w1.2, ← w1.1, enc, body, if_neg (by omega), if_neg (by omega), if_neg (by omega), if_pos (by omega), encs, List.append_nil, hkk]
        congr 2
        omega
    rw [if_neg h4] at h
    by_cases h6 : k = 6
    · rw [if_pos h6] at h
      split at h
      · cases h
      · rename_i hc
        simp only [Option.map_eq_some_iff, Prod.mk.injEq, Prod.exists] at h
        obtain ⟨xs, q', c', h, rfl, rfl, rfl⟩ := h
        have w1 := val_one (B := B) (a := a + 1) (by omega)
        have hm : val B (a + 1) 1 < 256 := val_lt hB (a + 1) 1
        have hlen := decs_len h
        obtain ⟨a1, a2, a3, a4, a5⟩ := hs _ _ _ _ _ _ h (by omega)
        refine ⟨by omega, by omega, by simp only [Tm.size]; omega, ⟨Tm.ok_mk.2 ⟨by simp, by simp [ByteArray.size], fun x hx => (a4 x hx).1⟩, fit_mk.2 ⟨by simp, by omega, by omega, fun x hx => (a4 x hx).2⟩⟩, ?_⟩
        rw [show c' - a = 1 + (1 + (c' - (a + 2))) from by omega, hd, piece B (a + 1), w1.2, ← w1.1, show a + 1 + 1 = a + 2 from rfl, ← a5, h6, enc, body, if_neg (by omega), if_neg (by omega), if_neg (by omega), if_neg (by omega), if_pos rfl, hlen, Nat.mod_eq_of_lt hm]
        rfl
    rw [if_neg h6] at h
    by_cases h7 : k = 7
    · rw [if_pos h7] at h
      cases h
      refine ⟨by omega, by omega, by simp only [Tm.size, Tm.size.sizes]; omega, ⟨Tm.ok_mk.2 ⟨by simp, by simp [ByteArray.size], by simp⟩, fit_mk.2 ⟨by simp, by omega, by omega, by simp⟩⟩, ?_⟩
      rw [show a + 1 - a = 1 + 0 from by omega, hd, h7, enc, body, if_neg (by omega), if_neg (by omega), if_neg (by omega), if_neg (by omega), if_neg (by omega), if_neg (by omega), encs]
      rfl
    rw [if_neg h7] at h
    by_cases h8 : k = 8
    · rw [if_pos h8] at h
      simp only [Option.map_eq_some_iff, Prod.mk.injEq, Prod.exists] at h
      obtain ⟨xs, q', c', h, rfl, rfl, rfl⟩ := h
      obtain ⟨a1, a2, a3, a4, a5⟩ := hs _ _ _ _ _ _ h (by omega)
      refine ⟨by omega, by omega, by simp only [Tm.size]; omega, ⟨Tm.ok_mk.2 ⟨by simp, by simp [ByteArray.size], fun x hx => (a4 x hx).1⟩, fit_mk.2 ⟨by simp, by omega, by omega, fun x hx => (a4 x hx).2⟩⟩, ?_⟩
      rw [show c' - a = 1 + (c' - (a + 1)) from by omega, hd, ← a5, h8, enc, body, if_neg (by omega), if_neg (by omega), if_neg (by omega), if_neg (by omega), if_neg (by omega), if_neg (by omega)]
      rfl
    rw [if_neg h8] at h
    by_cases h9 : k = 9
    · rw [if_pos h9] at h
      split at h
      · cases h
      · cases h
        rename_i hc
        simp only [not_or, Nat.not_lt] at hc
        have hm : val B (a + 1) 2 < 65536 := val_lt hB (a + 1) 2
        have hsz : (str ((B.drop (a + 3)).take (val B (a + 1) 2))).size = val B (a + 1) 2 := by rw [str_size, List.length_take, List.length_drop]; omega
        refine ⟨by omega, by omega, by simp only [Tm.size, Tm.size.sizes]; omega, ⟨Tm.ok_mk.2 ⟨by simp, by rw [hsz]; omega, by simp⟩, fit_mk.2 ⟨by simp, by omega, by omega, by simp⟩⟩, ?_⟩
        rw [show a + 3 + val B (a + 1) 2 - a = 1 + (2 + val B (a + 1) 2) from by omega, hd, piece B (a + 1), ← bes_val hB (a := a + 1) (m := 2) (by omega), h9, enc, body, if_neg (by omega), if_neg (by omega), if_neg (by omega), if_neg (by omega), if_neg (by omega), if_pos rfl, hsz, txt_str (small_take (small_drop hB _) _), encs, List.append_nil]
        rfl
    rw [if_neg h9] at h
    split at h
    · cases h
    · cases h
      refine ⟨by omega, by omega, by simp only [Tm.size, Tm.size.sizes]; omega, ⟨Tm.ok_mk.2 ⟨by simp, by simp [ByteArray.size], by simp⟩, fit_mk.2 ⟨by simp, by omega, by omega, by simp⟩⟩, ?_⟩
      rw [show a + 1 - a = 1 + 0 from by omega, hd, enc, body, if_neg (by omega), if_neg (by omega), if_neg (by omega), if_neg (by omega), if_neg (by omega), if_neg (by omega), encs, hkk]
      rfl
end Wr
end Go.Proofs.YtejmmjedognaaaaGreat

namespace Go.Proofs.YtejmmjedognaaaaGreat.Lm

/-- What limbs come to, the least one first. -/
def val : List Nat → Nat
  | [] => 0
  | x :: r => x + 4294967296 * val r

/-- Each limb is below 2^32. -/
def Small (l : List Nat) : Prop := ∀ x ∈ l, x < 4294967296

/-- The digits of a number, the least one first; 0 has none. -/
def digits (n : Nat) : List Nat := if h : n = 0 then [] else n % 4294967296 :: digits (n / 4294967296)
termination_by n
decreasing_by omega

/-- The last limb is not 0. -/
def Canon (l : List Nat) : Prop := 0 < l.length → l.getD (l.length - 1) 0 ≠ 0

set_option maxRecDepth 100000 in
theorem digits_zero : digits 0 = [] := by rw [digits]; simp
set_option maxRecDepth 100000 in
theorem digits_pos {n : Nat} (h : n ≠ 0) : digits n = n % 4294967296 :: digits (n / 4294967296) := by
  rw [digits]; simp [h]

set_option maxRecDepth 100000 in
theorem small_nil : Small [] := fun _ h => by simp at h
set_option maxRecDepth 100000 in
theorem small_cons {x : Nat} {l : List Nat} : Small (x :: l) ↔ x < 4294967296 ∧ Small l := by
  simp [Small]
set_option maxRecDepth 100000 in
theorem small_append {a b : List Nat} : Small (a ++ b) ↔ Small a ∧ Small b := by
  simp only [Small, List.mem_append]
  constructor
  · intro h; exact ⟨fun x hx => h x (.inl hx), fun x hx => h x (.inr hx)⟩
  · rintro ⟨h, k⟩ x (hx | hx)
    · exact h x hx
    · exact k x hx
set_option maxRecDepth 100000 in
theorem small_take {l : List Nat} (h : Small l) (k : Nat) : Small (l.take k) := fun x hx => h x (List.mem_of_mem_take hx)
set_option maxRecDepth 100000 in
theorem small_get {l : List Nat} (h : Small l) (k : Nat) (hk : k < l.length) : l[k] < 4294967296 := h _ (List.getElem_mem hk)
set_option maxRecDepth 100000 in
theorem small_getD {l : List Nat} (h : Small l) (k : Nat) : l.getD k 0 < 4294967296 := by
  rw [List.getD_eq_getElem?_getD]
  rcases Nat.lt_or_ge k l.length with hk | hk
  · rw [List.getElem?_eq_getElem hk]; exact small_get h k hk
  · rw [List.getElem?_eq_none hk]; simp

set_option maxRecDepth 100000 in
theorem val_digits (n : Nat) : val (digits n) = n := by
  induction n using Nat.strongRecOn with
  | ind n ih =>
    by_cases h : n = 0
    · subst h; rw [digits_zero]; rfl
    · rw [digits_pos h, val, ih (n / 4294967296) (by omega)]; omega

set_option maxRecDepth 100000 in
theorem small_digits (n : Nat) : Small (digits n) := by
  induction n using Nat.strongRecOn with
  | ind n ih =>
    by_cases h : n = 0
    · subst h; rw [digits_zero]; exact small_nil
    · rw [digits_pos h, small_cons]; exact ⟨by omega, ih _ (by omega)⟩

set_option maxRecDepth 100000 in
theorem digits_eq_nil {n : Nat} : digits n = [] ↔ n = 0 := by
  constructor
  · intro h; have := val_digits n; rw [h] at this; exact this.symm
  · rintro rfl; exact digits_zero

set_option maxRecDepth 100000 in
theorem canon_digits (n : Nat) : Canon (digits n) := by
  induction n using Nat.strongRecOn with
  | ind n ih =>
    by_cases h : n = 0
    · subst h; rw [digits_zero]; intro hx; simp at hx
    · rw [digits_pos h]
      intro _
      by_cases hz : n / 4294967296 = 0
      · rw [hz, digits_zero]; simp; omega
      · have hne : digits (n / 4294967296) ≠ [] := fun e => hz (digits_eq_nil.1 e)
        have hl : 0 < (digits (n / 4294967296)).length := List.length_pos_iff.2 hne
        have := ih _ (by omega) hl
        rw [List.length_cons, Nat.add_sub_cancel]
        obtain ⟨m, hm⟩ : ∃ m, (digits (n / 4294967296)).length = m + 1 := ⟨_, (Nat.succ_pred_eq_of_pos hl).symm⟩
        rw [hm] at this ⊢
        simpa using this

set_option maxRecDepth 100000 in
theorem val_append (a b : List Nat) : val (a ++ b) = val a + 4294967296 ^ a.length * val b := by
  induction a with
  | nil => simp [val]
  | cons x a ih =>
    simp only [List.cons_append, val, ih, List.length_cons, Nat.pow_succ]
    rw [Nat.mul_add, Nat.add_assoc, ← Nat.mul_assoc, Nat.mul_comm 4294967296 (4294967296 ^ a.length)]

set_option maxRecDepth 100000 in
theorem val_lt {l : List Nat} (h : Small l) : val l < 4294967296 ^ l.length := by
  induction l with
  | nil => simp [val]
  | cons x l ih =>
    rw [small_cons] at h
    have := ih h.2
    simp only [val, List.length_cons, Nat.pow_succ]
    have h1 : 4294967296 * (val l + 1) ≤ 4294967296 * 4294967296 ^ l.length := Nat.mul_le_mul_left _ this
    rw [Nat.mul_comm (4294967296 ^ l.length)]
    have := h.1
    omega

set_option maxRecDepth 100000 in
theorem canon_tail {x : Nat} {l : List Nat} (h : Canon (x :: l)) : Canon l := by
  intro hl
  have := h (by simp)
  obtain ⟨m, hm⟩ : ∃ m, l.length = m + 1 := ⟨_, (Nat.succ_pred_eq_of_pos hl).symm⟩
  rw [List.length_cons, Nat.add_sub_cancel, hm] at this
  rw [hm]
  simpa using this

set_option maxRecDepth 100000 in
theorem val_eq_zero {l : List Nat} (hc : Canon l) (h : val l = 0) : l = [] := by
  induction l with
  | nil => rfl
  | cons x l ih =>
    simp only [val] at h
    have hx : x = 0 := by omega
    have hl : val l = 0 := by omega
    have hn := ih (canon_tail hc) hl
    subst hn hx
    exact absurd rfl (hc (by simp))

set_option maxRecDepth 100000 in
theorem digits_val {l : List Nat} (hs : Small l) (hc : Canon l) : digits (val l) = l := by
  induction l with
  | nil => exact digits_zero
  | cons x l ih =>
    rw [small_cons] at hs
    have hne : val (x :: l) ≠ 0 := fun h => by have := val_eq_zero hc h; simp at this
    rw [digits_pos hne]
    have h1 : val (x :: l) % 4294967296 = x := by simp only [val]; omega
    have h2 : val (x :: l) / 4294967296 = val l := by simp only [val]; omega
    rw [h1, h2, ih hs.2 (canon_tail hc)]

set_option maxRecDepth 100000 in
/-- Limbs with a nought on top come to what they come to without. -/
theorem val_snoc_zero (l : List Nat) : val (l ++ [0]) = val l := by rw [val_append]; simp [val]

set_option maxRecDepth 100000 in
/-- The top noughts of limbs. -/
theorem digits_prefix {l : List Nat} (hs : Small l) (k : Nat) (hk : k ≤ l.length) (hz : ∀ j, k ≤ j → j < l.length → l.getD j 0 = 0) (ht : k = 0 ∨ l.getD (k - 1) 0 ≠ 0) :
    digits (val l) = l.take k := by
  have hv : val l = val (l.take k) := by
    have e : l = l.take k ++ l.drop k := (List.take_append_drop k l).symm
    have hd : val (l.drop k) = 0 := by
      have : ∀ m : List Nat, (∀ j, j < m.length → m.getD j 0 = 0) → val m = 0 := by
        intro m
        induction m with
        | nil => intro _; rfl
        | cons x m ih =>
          intro hm
          have hx := hm 0 (by simp)
          have hr := ih (fun j hj => by have := hm (j + 1) (by simp; omega); simpa using this)
          simp only [val, hr]
          simpa using hx
      refine this _ (fun j hj => ?_)
      have := hz (k + j) (by omega) (by simp at hj; omega)
      rw [List.getD_eq_getElem?_getD, List.getElem?_drop, ← List.getD_eq_getElem?_getD]
      exact this
    conv => lhs; rw [e]
    rw [val_append, hd]; simp
  rw [hv]
  refine digits_val (small_take hs k) ?_
  intro hx
  rw [List.length_take, Nat.min_eq_left hk] at hx ⊢
  have ht' : l.getD (k - 1) 0 ≠ 0 := by
    rcases ht with h | h
    · omega
    · exact h
  rw [List.getD_eq_getElem?_getD, List.getElem?_take_of_lt (by omega), ← List.getD_eq_getElem?_getD]
  exact ht'

set_option maxRecDepth 100000 in
/-- How many digits there are. -/
theorem digits_length (n k : Nat) : (digits n).length ≤ k ↔ n < 4294967296 ^ k := by
  constructor
  · intro h
    have h1 := val_lt (small_digits n)
    rw [val_digits] at h1
    exact Nat.lt_of_lt_of_le h1 (Nat.pow_le_pow_right (by decide) h)
  · induction k generalizing n with
    | zero => intro h; have : n = 0 := by simp at h; exact h
              subst this; rw [digits_zero]; simp
    | succ k ih =>
      intro h
      by_cases h0 : n = 0
      · subst h0; rw [digits_zero]; simp
      · rw [digits_pos h0]
        have := ih (n / 4294967296) (by rw [Nat.pow_succ, Nat.mul_comm] at h; exact Nat.div_lt_of_lt_mul h)
        simp; exact this

set_option maxRecDepth 100000 in
theorem digits_small_len {l : List Nat} (hs : Small l) : (digits (val l)).length ≤ l.length := (digits_length _ _).2 (val_lt hs)

set_option maxRecDepth 100000 in
/-- Two rows of limbs of one length stand as the greatest unlike limbs do. -/
theorem val_lt_of_top {a b : List Nat} (ha : Small a) (_hb : Small b) (k : Nat) (hl : a.length = b.length) (hk : k < a.length)
    (heq : ∀ j, k < j → j < a.length → a.getD j 0 = b.getD j 0) (hlt : a.getD k 0 < b.getD k 0) : val a < val b := by
  induction a generalizing b k with
  | nil => simp at hk
  | cons x a ih =>
    cases b with
    | nil => simp at hl
    | cons y b =>
      rw [small_cons] at ha
      rw [small_cons] at _hb
      simp at hl
      simp only [val]
      cases k with
      | zero =>
        have : a = b := by
          apply List.ext_getElem hl
          intro i h1 h2
          have := heq (i + 1) (by omega) (by simp; omega)
          simp [List.getD_eq_getElem?_getD, h1, h2] at this
          exact this
        subst this
        simp at hlt
        omega
      | succ k =>
        have := ih ha.2 _hb.2 k hl (by simp at hk; omega) (fun j h1 h2 => by have := heq (j + 1) (by omega) (by simp; omega); simpa using this) (by simpa using hlt)
        omega

set_option maxRecDepth 100000 in
theorem eq_of_getD {a b : List Nat} (hl : a.length = b.length) (h : ∀ j, j < a.length → a.getD j 0 = b.getD j 0) : a = b := by
  apply List.ext_getElem hl
  intro i h1 h2
  have := h i h1
  simpa [List.getD_eq_getElem?_getD, h1, h2] using this

set_option maxRecDepth 100000 in
/-- Fewer limbs are less, where the last one is not 0. -/
theorem val_lt_of_length {a b : List Nat} (ha : Small a) (hb : Small b) (hc : Canon b) (hl : a.length < b.length) : val a < val b := by
  have h1 := val_lt ha
  have h2 : ¬ val b < 4294967296 ^ a.length := fun h => by
    have := (digits_length (val b) a.length).2 h
    rw [digits_val hb hc] at this
    omega
  omega

/-- The limb at a place; 0 behind the last one. (Under a name of its own, so that no walk turns it.) -/
def lg (l : List Nat) (j : Nat) : Nat := l.getD j 0
set_option maxRecDepth 100000 in
theorem lg_def (l : List Nat) (j : Nat) : lg l j = l.getD j 0 := rfl
set_option maxRecDepth 100000 in
theorem lg_lt {l : List Nat} (h : Small l) (j : Nat) : lg l j < 4294967296 := small_getD h j
set_option maxRecDepth 100000 in
theorem lg_nil (j : Nat) : lg [] j = 0 := rfl
set_option maxRecDepth 100000 in
theorem lg_zero (x : Nat) (l : List Nat) : lg (x :: l) 0 = x := rfl
set_option maxRecDepth 100000 in
theorem lg_succ (x : Nat) (l : List Nat) (j : Nat) : lg (x :: l) (j + 1) = lg l j := by simp [lg]
set_option maxRecDepth 100000 in
theorem lg_take {l : List Nat} {k j : Nat} (h : j < k) : lg (l.take k) j = lg l j := by
  simp only [lg, List.getD_eq_getElem?_getD, List.getElem?_take_of_lt h]
set_option maxRecDepth 100000 in
theorem lg_out {l : List Nat} {j : Nat} (h : l.length ≤ j) : lg l j = 0 := by
  simp only [lg, List.getD_eq_getElem?_getD, List.getElem?_eq_none h, Option.getD_none]
set_option maxRecDepth 100000 in
theorem lg_append_left {a b : List Nat} {j : Nat} (h : j < a.length) : lg (a ++ b) j = lg a j := by
  simp only [lg, List.getD_eq_getElem?_getD, List.getElem?_append_left h]
set_option maxRecDepth 100000 in
theorem lg_append_right {a b : List Nat} {j : Nat} (h : a.length ≤ j) : lg (a ++ b) j = lg b (j - a.length) := by
  simp only [lg, List.getD_eq_getElem?_getD, List.getElem?_append_right h]
set_option maxRecDepth 100000 in
theorem take_succ_lg {l : List Nat} {k : Nat} (h : k < l.length) : l.take (k + 1) = l.take k ++ [lg l k] := by
  rw [List.take_succ_eq_append_getElem h]; simp [lg, h]
set_option maxRecDepth 100000 in
theorem eq_of_lg {a b : List Nat} (hl : a.length = b.length) (h : ∀ j, j < a.length → lg a j = lg b j) : a = b := eq_of_getD hl h

/-- How two numbers stand. -/
def cmpN (a b : Nat) : Int := if a < b then -1 else if b < a then 1 else 0

end Go.Proofs.YtejmmjedognaaaaGreat.Lm

namespace Go.Proofs.YtejmmjedognaaaaGreat.Lm

set_option maxRecDepth 100000 in
theorem val_take_succ (l : List Nat) (j : Nat) : val (l.take (j + 1)) = val (l.take j) + 4294967296 ^ j * lg l j := by
  rcases Nat.lt_or_ge j l.length with h | h
  · rw [take_succ_lg h, val_append, List.length_take, Nat.min_eq_left (by omega)]
    simp [val]
  · rw [lg_out h, List.take_of_length_le (by omega), List.take_of_length_le h]
    simp

set_option maxRecDepth 100000 in
theorem lg_set {t : List Nat} {i : Nat} (h : i < t.length) (x j : Nat) : lg (t.set i x) j = if j = i then x else lg t j := by
  simp only [lg, List.getD_eq_getElem?_getD, List.getElem?_set]
  by_cases e : i = j
  · subst e; simp [h]
  · simp [e, Ne.symm e]

set_option maxRecDepth 100000 in
theorem val_take_set {t : List Nat} {i j : Nat} (h : j ≤ i) (x : Nat) : val ((t.set i x).take j) = val (t.take j) := by
  have : (t.set i x).take j = t.take j := by
    rw [List.take_set_of_le h]
  rw [this]

set_option maxRecDepth 100000 in
theorem small_set {t : List Nat} (h : Small t) (i : Nat) {x : Nat} (hx : x < 4294967296) : Small (t.set i x) := by
  intro y hy
  rcases List.mem_or_eq_of_mem_set hy with h1 | h1
  · exact h y h1
  · omega

set_option maxRecDepth 100000 in
theorem small_replicate (n : Nat) : Small (List.replicate n 0) := by
  intro x hx
  rw [List.mem_replicate] at hx
  omega

set_option maxRecDepth 100000 in
/-- One round of a sum. -/
theorem add_step {t l k : List Nat} {j c : Nat} (hj : j < t.length) (h : val (t.take j) + 4294967296 ^ j * c = val (l.take j) + val (k.take j)) :
    val ((t.set j ((c + lg l j + lg k j) % 4294967296)).take (j + 1)) + 4294967296 ^ (j + 1) * ((c + lg l j + lg k j) / 4294967296) = val (l.take (j + 1)) + val (k.take (j + 1)) := by
  rw [val_take_succ, val_take_set (Nat.le_refl _), lg_set hj, if_pos rfl, val_take_succ l, val_take_succ k, Nat.pow_succ, Nat.mul_assoc]
  have e : (c + lg l j + lg k j) % 4294967296 + 4294967296 * ((c + lg l j + lg k j) / 4294967296) = c + lg l j + lg k j := Nat.mod_add_div _ _
  have e2 : 4294967296 ^ j * ((c + lg l j + lg k j) % 4294967296) + 4294967296 ^ j * (4294967296 * ((c + lg l j + lg k j) / 4294967296)) = 4294967296 ^ j * c + 4294967296 ^ j * lg l j + 4294967296 ^ j * lg k j := by
    rw [← Nat.mul_add, e, Nat.mul_add, Nat.mul_add]
  generalize 4294967296 ^ j = P at *
  generalize P * ((c + lg l j + lg k j) % 4294967296) = u at *
  generalize P * (4294967296 * ((c + lg l j + lg k j) / 4294967296)) = v at *
  omega

set_option maxRecDepth 100000 in
/-- The last limb of a sum. -/
theorem add_end {t l k : List Nat} {c : Nat} (ht : t.length = l.length + 1) (hk : k.length ≤ l.length) (h : val (t.take l.length) + 4294967296 ^ l.length * c = val (l.take l.length) + val (k.take l.length)) :
    val (t.set l.length c) = val l + val k := by
  have e : (t.set l.length c) = (t.set l.length c).take (l.length + 1) := by rw [List.take_of_length_le (by simp; omega)]
  rw [e, val_take_succ, val_take_set (Nat.le_refl _), lg_set (by omega), if_pos rfl, h, List.take_of_length_le (Nat.le_refl _), List.take_of_length_le hk]

set_option maxRecDepth 100000 in
/-- One round of a difference. -/
theorem sub_step {t l k : List Nat} {j b x b' : Nat} (hj : j < t.length) (h : val (l.take j) + 4294967296 ^ j * b = val (t.take j) + val (k.take j)) (hx : lg l j + 4294967296 * b' = x + lg k j + b) :
    val (l.take (j + 1)) + 4294967296 ^ (j + 1) * b' = val ((t.set j x).take (j + 1)) + val (k.take (j + 1)) := by
  rw [val_take_succ (t.set j x), val_take_set (Nat.le_refl _), lg_set hj, if_pos rfl, val_take_succ l, val_take_succ k, Nat.pow_succ, Nat.mul_assoc]
  have e2 : 4294967296 ^ j * lg l j + 4294967296 ^ j * (4294967296 * b') = 4294967296 ^ j * x + 4294967296 ^ j * lg k j + 4294967296 ^ j * b := by
    rw [← Nat.mul_add, hx, Nat.mul_add, Nat.mul_add]
  generalize 4294967296 ^ j = P at *
  generalize P * (4294967296 * b') = v at *
  omega

set_option maxRecDepth 100000 in
theorem sub_end {t l k : List Nat} {b : Nat} (hs : Small t) (ht : t.length = l.length) (hk : k.length ≤ l.length) (hle : val k ≤ val l)
    (h : val (l.take l.length) + 4294967296 ^ l.length * b = val (t.take l.length) + val (k.take l.length)) : val t = val l - val k := by
  rw [List.take_of_length_le (Nat.le_refl _), List.take_of_length_le (by omega), List.take_of_length_le hk] at h
  have h1 := val_lt hs
  rw [ht] at h1
  have hb : b = 0 := by
    rcases Nat.eq_zero_or_pos b with h0 | h0
    · exact h0
    · have : 4294967296 ^ l.length * 1 ≤ 4294967296 ^ l.length * b := Nat.mul_le_mul_left _ h0
      omega
  subst hb
  simp at h
  omega

set_option maxRecDepth 100000 in
/-- One round of a product, within the inner loop. 'o': the limbs as they stood ahead of it. -/
theorem mul_step {t o k : List Nat} {i j c x : Nat} (hj : i + j < t.length) (h : val (t.take (i + j)) + 4294967296 ^ (i + j) * c = val (o.take (i + j)) + 4294967296 ^ i * (x * val (k.take j))) (ho : lg t (i + j) = lg o (i + j)) :
    val ((t.set (i + j) ((c + (x * lg k j + lg t (i + j))) % 4294967296)).take (i + (j + 1))) + 4294967296 ^ (i + (j + 1)) * ((c + (x * lg k j + lg t (i + j))) / 4294967296) =
      val (o.take (i + (j + 1))) + 4294967296 ^ i * (x * val (k.take (j + 1))) := by
  rw [← Nat.add_assoc, val_take_succ, val_take_set (Nat.le_refl _), lg_set hj, if_pos rfl, val_take_succ o, val_take_succ k, Nat.pow_succ, Nat.mul_assoc]
  have e : (c + (x * lg k j + lg t (i + j))) % 4294967296 + 4294967296 * ((c + (x * lg k j + lg t (i + j))) / 4294967296) = c + (x * lg k j + lg t (i + j)) := Nat.mod_add_div _ _
  have e2 : 4294967296 ^ (i + j) * ((c + (x * lg k j + lg t (i + j))) % 4294967296) + 4294967296 ^ (i + j) * (4294967296 * ((c + (x * lg k j + lg t (i + j))) / 4294967296)) =
      4294967296 ^ (i + j) * c + (4294967296 ^ (i + j) * (x * lg k j) + 4294967296 ^ (i + j) * lg o (i + j)) := by
    rw [← Nat.mul_add, e, ho, Nat.mul_add, Nat.mul_add]
  have e3 : 4294967296 ^ i * (x * (val (k.take j) + 4294967296 ^ j * lg k j)) = 4294967296 ^ i * (x * val (k.take j)) + 4294967296 ^ (i + j) * (x * lg k j) := by
    rw [Nat.mul_add, Nat.mul_add, Nat.pow_add]
    congr 1
    rw [Nat.mul_left_comm x, Nat.mul_assoc]
  rw [e3]
  generalize 4294967296 ^ (i + j) * ((c + (x * lg k j + lg t (i + j))) % 4294967296) = u at *
  generalize 4294967296 ^ (i + j) * (4294967296 * ((c + (x * lg k j + lg t (i + j))) / 4294967296)) = v at *
  generalize 4294967296 ^ (i + j) * (x * lg k j) = y at *
  omega

set_option maxRecDepth 100000 in
/-- What a limb of a product is made of fits into two limbs. -/
theorem mul_fits {c x y z : Nat} (hc : c < 4294967296) (hx : x < 4294967296) (hy : y < 4294967296) (hz : z < 4294967296) : c + (x * y + z) < 18446744073709551616 := by
  have h1 : x * y ≤ 4294967295 * 4294967295 := Nat.mul_le_mul (by omega) (by omega)
  omega
set_option maxRecDepth 100000 in
theorem mul_fits2 {x y : Nat} (hx : x < 4294967296) (hy : y < 4294967296) : x * y ≤ 18446744065119617025 := by
  have h1 : x * y ≤ 4294967295 * 4294967295 := Nat.mul_le_mul (by omega) (by omega)
  omega

set_option maxRecDepth 100000 in
/-- One round of a product, the outer loop. -/
theorem mul_outer {t o l k : List Nat} {i c : Nat} (hi : i + k.length < t.length)
    (h : val (t.take (i + k.length)) + 4294967296 ^ (i + k.length) * c = val (o.take (i + k.length)) + 4294967296 ^ i * (lg l i * val (k.take k.length)))
    (ho : val (o.take (i + k.length)) = val (l.take i) * val k) :
    val ((t.set (i + k.length) c).take (i + 1 + k.length)) = val (l.take (i + 1)) * val k := by
  rw [show i + 1 + k.length = i + k.length + 1 from by omega, val_take_succ, val_take_set (Nat.le_refl _), lg_set hi, if_pos rfl, h, ho, List.take_of_length_le (Nat.le_refl _), val_take_succ, Nat.add_mul, Nat.mul_assoc]

set_option maxRecDepth 100000 in
theorem cmpN_lt {a b : Nat} : Lm.cmpN a b < 0 ↔ a < b := by
  unfold cmpN
  by_cases h : a < b
  · simp [h]
  · by_cases h' : b < a <;> simp [h, h']
end Go.Proofs.YtejmmjedognaaaaGreat.Lm
