/-
  PLAIN MATHEMATICS OF THE ENCODING: numbers as bytes, terms as bytes, and back. Nothing of the program stands here.
  THE ENCODING OF VALID TERMS: what is laid is read again.
  BYTES IN MEMORY: what a slice of bytes holds, rows of bytes of one's own, append, SameBytes.
  BYTES THAT ARE PUT BEHIND A ROW; PACKAGE wire: laidNumber; the reference's num.
  PACKAGE wire: laidInteger.
  PACKAGE wire: laid.
  PACKAGE wire: Lay.
-/
import Derived.Test.YtomohdfcggghoaaJ6
import Derived.Test.YtomohdfcggghoaaJ7
import Derived.Test.YtomohdfcggghoaaJ2
import Derived.Test.YtomohdfcggghoaaJ4
import Derived.Lib.AppendStr
import Derived.Laws.BytesString
import Derived.Deep.CutBlock
namespace Go.Proofs.Ytomohdfcggghoaa
namespace Wr

/-- So many bytes of a number, the greatest one first. -/
def bes (n : Nat) : Nat → List Nat
  | 0 => []
  | k + 1 => n / 256 ^ k % 256 :: bes n k
/-- The number of bytes. -/
def beq (l : List Nat) : Nat := l.foldl (fun n x => n * 256 + x) 0
def Small (l : List Nat) : Prop := ∀ x ∈ l, x < 256
set_option maxRecDepth 100000 in
theorem small_nil : Small [] := fun _ h => nomatch h
set_option maxRecDepth 100000 in
theorem small_append {a b : List Nat} : Small (a ++ b) ↔ Small a ∧ Small b := by
  constructor
  · exact fun h => ⟨fun x hx => h x (by simp [hx]), fun x hx => h x (by simp [hx])⟩
  · intro h x hx
    rcases List.mem_append.1 hx with hx | hx
    · exact h.1 x hx
    · exact h.2 x hx
set_option maxRecDepth 100000 in
theorem small_take {l : List Nat} (h : Small l) (k : Nat) : Small (l.take k) := fun x hx => h x (List.mem_of_mem_take hx)
set_option maxRecDepth 100000 in
theorem small_drop {l : List Nat} (h : Small l) (k : Nat) : Small (l.drop k) := fun x hx => h x (List.mem_of_mem_drop hx)
set_option maxRecDepth 100000 in
theorem bes_len (n k : Nat) : (bes n k).length = k := by
  induction k with
  | zero => rfl
  | succ k ih => simp [bes, ih]
set_option maxRecDepth 100000 in
theorem bes_small (n k : Nat) : Small (bes n k) := by
  induction k with
  | zero => exact small_nil
  | succ k ih =>
    intro x hx
    rcases List.mem_cons.1 hx with rfl | hx
    · omega
    · exact ih x hx
set_option maxRecDepth 100000 in
theorem fold_add (l : List Nat) (a : Nat) : l.foldl (fun n x => n * 256 + x) a = a * 256 ^ l.length + beq l := by
  unfold beq
  induction l generalizing a with
  | nil => simp
  | cons x r ih =>
    rw [List.foldl_cons, ih, List.foldl_cons, ih (0 * 256 + x), List.length_cons, Nat.pow_succ]
    have e1 : (a * 256 + x) * 256 ^ r.length = a * (256 ^ r.length * 256) + x * 256 ^ r.length := by rw [Nat.add_mul, Nat.mul_assoc, Nat.mul_comm 256]
    have e2 : (0 * 256 + x) * 256 ^ r.length = x * 256 ^ r.length := by rw [Nat.zero_mul, Nat.zero_add]
    omega
set_option maxRecDepth 100000 in
theorem beq_cons (x : Nat) (r : List Nat) : beq (x :: r) = x * 256 ^ r.length + beq r := by
  have := fold_add r (0 * 256 + x)
  rw [Nat.zero_mul, Nat.zero_add] at this
  unfold beq
  rw [List.foldl_cons, Nat.zero_mul, Nat.zero_add, this]
  rfl
set_option maxRecDepth 100000 in
theorem beq_snoc (r : List Nat) (x : Nat) : beq (r ++ [x]) = beq r * 256 + x := by simp [beq]
set_option maxRecDepth 100000 in
theorem beq_lt {l : List Nat} (h : Small l) : beq l < 256 ^ l.length := by
  induction l with
  | nil => simp [beq]
  | cons x r ih =>
    have h1 := ih fun y hy => h y (by simp [hy])
    have h2 : x < 256 := h x (by simp)
    rw [beq_cons, List.length_cons, Nat.pow_succ]
    have h3 : (x + 1) * 256 ^ r.length ≤ 256 * 256 ^ r.length := Nat.mul_le_mul_right _ (by omega)
    rw [Nat.add_mul, Nat.one_mul] at h3
    rw [Nat.mul_comm (256 ^ r.length)]
    omega
set_option maxRecDepth 100000 in
theorem beq_bes (n k : Nat) : beq (bes n k) = n % 256 ^ k := by
  induction k with
  | zero => simp [bes, beq, Nat.mod_one]
  | succ k ih =>
    rw [bes, beq_cons, ih, bes_len, Nat.mul_comm, Nat.pow_succ]
    rw [Nat.mod_mul]
    omega
set_option maxRecDepth 100000 in
theorem bes_beq_aux (x : Nat) (q : Nat) : ∀ k, bes (q * 256 ^ k + x) k = bes x k
  | 0 => rfl
  | k + 1 => by
    rw [bes, bes]
    have e1 : q * 256 ^ (k + 1) = (q * 256) * 256 ^ k := by rw [Nat.pow_succ, Nat.mul_comm (256 ^ k), Nat.mul_assoc]
    rw [e1, bes_beq_aux x (q * 256) k]
    congr 1
    have hp : 0 < 256 ^ k := Nat.pow_pos (by omega)
    rw [Nat.add_comm, Nat.add_mul_div_right _ _ hp]
    omega
set_option maxRecDepth 100000 in
theorem bes_beq {l : List Nat} (h : Small l) : bes (beq l) l.length = l := by
  induction l with
  | nil => rfl
  | cons x r ih =>
    have hr : Small r := fun y hy => h y (by simp [hy])
    have h2 : x < 256 := h x (by simp)
    rw [List.length_cons, bes, beq_cons, bes_beq_aux, ih hr]
    have hp : 0 < 256 ^ r.length := Nat.pow_pos (by omega)
    have hl := beq_lt hr
    rw [Nat.add_comm, Nat.add_mul_div_right _ _ hp, Nat.div_eq_of_lt hl]
    congr 1
    omega

/-- The bytes of limbs. -/
def limbs (l : List Nat) : List Nat := l.flatMap fun x => bes x 4
set_option maxRecDepth 100000 in
theorem limbs_snoc (l : List Nat) (x : Nat) : limbs (l ++ [x]) = limbs l ++ bes x 4 := by simp [limbs]
set_option maxRecDepth 100000 in
theorem limbs_len (l : List Nat) : (limbs l).length = 4 * l.length := by
  induction l with
  | nil => rfl
  | cons x r ih => simp only [limbs, List.flatMap_cons, List.length_append, bes_len, List.length_cons] at ih ⊢; omega
set_option maxRecDepth 100000 in
theorem limbs_small (l : List Nat) : Small (limbs l) := by
  intro x hx
  obtain ⟨y, _, hy⟩ := List.mem_flatMap.1 hx
  exact bes_small y 4 x hy

/-- Letters as numbers, and back. -/
def txt (s : ByteArray) : List Nat := s.data.toList.map UInt8.toNat
def str (l : List Nat) : ByteArray := ⟨(l.map UInt8.ofNat).toArray⟩
set_option maxRecDepth 100000 in
theorem txt_len (s : ByteArray) : (txt s).length = s.size := by rw [txt, List.length_map, Array.length_toList]; rfl
set_option maxRecDepth 100000 in
theorem txt_small (s : ByteArray) : Small (txt s) := by
  intro x hx
  obtain ⟨y, _, rfl⟩ := List.mem_map.1 hx
  exact y.toNat_lt
set_option maxRecDepth 100000 in
theorem txt_str {l : List Nat} (h : Small l) : txt (str l) = l := by
  simp only [txt, str, List.map_map]
  conv => rhs; rw [← List.map_id l]
  apply List.map_congr_left
  intro x hx
  have := h x hx
  show (UInt8.ofNat x).toNat = x
  rw [UInt8.toNat_ofNat']
  exact Nat.mod_eq_of_lt this
set_option maxRecDepth 100000 in
theorem str_txt (s : ByteArray) : str (txt s) = s := by
  simp only [txt, str, List.map_map]
  apply ByteArray.ext
  apply Array.ext'
  show List.map _ _ = _
  conv => rhs; rw [← List.map_id s.data.toList]
  apply List.map_congr_left
  intro x _
  simp
set_option maxRecDepth 100000 in
theorem str_size (l : List Nat) : (str l).size = l.length := by simp [str, ByteArray.size]

/-- What stands between a term's kind and its arguments. -/
def body (k n : Int) (g : Bool) (l : List Nat) (u : Int) (s : ByteArray) (m : Nat) : List Nat :=
  if k = 1 then bes (n % 18446744073709551616).toNat 8
  else if k = 2 then (if g then 1 else 0) :: l.length % 256 :: limbs l
  else if k = 3 then bes u.toNat 8
  else if k = 4 ∨ k = 5 then [(n % 256).toNat]
  else if k = 6 then [m % 256]
  else if k = 9 then bes s.size 2 ++ txt s
  else []
set_option maxRecDepth 100000 in
theorem body_small (k n : Int) (g : Bool) (l : List Nat) (u : Int) (s : ByteArray) (m : Nat) : Small (body k n g l u s m) := by
  unfold body
  split
  · exact bes_small _ _
  split
  · intro x hx
    simp only [List.mem_cons] at hx
    rcases hx with rfl | rfl | hx
    · split <;> omega
    · omega
    · exact limbs_small l x hx
  split
  · exact bes_small _ _
  split
  · intro x hx
    simp only [List.mem_singleton] at hx
    omega
  split
  · intro x hx
    simp only [List.mem_singleton] at hx
    omega
  split
  · exact small_append.2 ⟨bes_small _ _, txt_small s⟩
  · exact small_nil
set_option maxRecDepth 100000 in
theorem body_len (k n : Int) (g : Bool) (l : List Nat) (u : Int) (s : ByteArray) (m : Nat) : (body k n g l u s m).length ≤ 8 + 4 * l.length + s.size := by
  unfold body
  split
  · rw [bes_len]; omega
  split
  · simp only [List.length_cons, limbs_len]; omega
  split
  · rw [bes_len]; omega
  split
  · simp only [List.length_cons, List.length_nil]; omega
  split
  · simp only [List.length_cons, List.length_nil]; omega
  split
  · rw [List.length_append, bes_len, txt_len]; omega
  · simp

mutual
/-- A term's bytes. -/
def enc : Tm → List Nat
  | .mk k n g l u s ks => (k % 256).toNat :: (body k n g l u s ks.length ++ encs ks)
def encs : List Tm → List Nat
  | [] => []
  | t :: r => enc t ++ encs r
end
set_option maxRecDepth 100000 in
theorem enc_eq (t : Tm) : enc t = (t.kind % 256).toNat :: (body t.kind t.num t.neg t.mag t.bits t.bytes t.args.length ++ encs t.args) := by cases t; rw [enc]; rfl
set_option maxRecDepth 100000 in
theorem encs_append (a b : List Tm) : encs (a ++ b) = encs a ++ encs b := by
  induction a with
  | nil => simp [encs]
  | cons t r ih => simp [encs, ih]
set_option maxRecDepth 100000 in
theorem encs_take {ts : List Tm} {j : Nat} {t : Tm} (h : ts[j]? = some t) : encs (ts.take (j + 1)) = encs (ts.take j) ++ enc t := by
  rw [List.take_add_one, h, encs_append]
  simp [encs]
set_option maxRecDepth 100000 in
theorem encs_le (ts : List Tm) (j : Nat) : (encs (ts.take j)).length ≤ (encs ts).length := by
  have := encs_append (ts.take j) (ts.drop j)
  rw [List.take_append_drop] at this
  rw [this, List.length_append]
  omega
set_option maxRecDepth 100000 in
theorem encs_small {ts : List Tm} (h : ∀ t ∈ ts, Small (enc t)) : Small (encs ts) := by
  induction ts with
  | nil => rw [encs]; exact small_nil
  | cons t r ih => rw [encs]; exact small_append.2 ⟨h t (by simp), ih fun x hx => h x (by simp [hx])⟩
set_option maxRecDepth 100000 in
theorem enc_small (t : Tm) : Small (enc t) := by
  induction t using Tm.ind with
  | h k n g l u s ks ih =>
    rw [enc]
    intro x hx
    rcases List.mem_cons.1 hx with rfl | hx
    · omega
    · exact small_append.2 ⟨body_small _ _ _ _ _ _ _, encs_small ih⟩ x hx
set_option maxRecDepth 100000 in
theorem enc_len (t : Tm) : t.Ok → (enc t).length ≤ 70000 * t.size := by
  induction t using Tm.ind with
  | h k n g l u s ks ih =>
    intro ho
    have ho := Tm.ok_mk.1 ho
    have hs : ∀ xs : List Tm, (∀ x ∈ xs, x ∈ ks) → (encs xs).length ≤ 70000 * Tm.size.sizes xs := by
      intro xs
      induction xs with
      | nil => intro _; simp [encs]
      | cons x r ihr =>
        intro hx
        have h1 := ih x (hx x (by simp)) (ho.2.2 x (hx x (by simp)))
        have h2 := ihr fun y hy => hx y (by simp [hy])
        rw [encs, List.length_append, Tm.size.sizes]
        omega
    have h1 := hs ks fun _ h => h
    have h2 := body_len k n g l u s ks.length
    rw [enc, Tm.size, List.length_cons, List.length_append]
    omega
set_option maxRecDepth 100000 in
theorem enc_pos (t : Tm) : 0 < (enc t).length := by cases t; rw [enc]; simp

mutual
/-- All limbs are limbs, and all bits are bits of a word. -/
def Fit : Tm → Prop
  | .mk _ _ _ l u _ ks => (∀ x ∈ l, x < 4294967296) ∧ 0 ≤ u ∧ u < 18446744073709551616 ∧ Fits ks
def Fits : List Tm → Prop
  | [] => True
  | t :: r => Fit t ∧ Fits r
end
set_option maxRecDepth 100000 in
theorem fits_iff {ts : List Tm} : Fits ts ↔ ∀ t ∈ ts, Fit t := by
  induction ts with
  | nil => simp [Fits]
  | cons t r ih => simp [Fits, ih]
set_option maxRecDepth 100000 in
theorem fit_mk {k n : Int} {g : Bool} {l : List Nat} {u : Int} {s : ByteArray} {ks : List Tm} : Fit (.mk k n g l u s ks) ↔ (∀ x ∈ l, x < 4294967296) ∧ 0 ≤ u ∧ u < 18446744073709551616 ∧ ∀ t ∈ ks, Fit t := by
  rw [Fit, fits_iff]
set_option maxRecDepth 100000 in
theorem sizes_append (a b : List Tm) : Tm.size.sizes (a ++ b) = Tm.size.sizes a + Tm.size.sizes b := by
  induction a with
  | nil => simp [Tm.size.sizes]
  | cons t r ih => simp only [List.cons_append, Tm.size.sizes, ih]; omega

/-! ### Back -/
/-- The number of so many bytes from a place on. -/
def val (B : List Nat) (a m : Nat) : Nat := beq ((B.drop a).take m)
def limbsAt (B : List Nat) (a m : Nat) : List Nat := (List.range m).map fun i => val B (a + 4 * i) 4
def si64 (x : Nat) : Int := if x < 9223372036854775808 then (x : Int) else (x : Int) - 18446744073709551616
/-- So many, one behind the other. -/
def decs (D : Nat → Nat → Option (Tm × Nat × Nat)) : Nat → Nat → Nat → Option (List Tm × Nat × Nat)
  | 0, p, a => some ([], p, a)
  | m + 1, p, a => (decs D m p a).bind fun x => (D x.2.1 x.2.2).map fun y => (x.1 ++ [y.1], y.2)
/-- The term that stands at a place, how many parts may come behind it, and where it ends. -/
def dec (S : Bool) (B : List Nat) : Nat → Nat → Nat → Option (Tm × Nat × Nat)
  | 0, _, _ => none
  | f + 1, p, a =>
    if p = 0 ∨ B.length < a + 1 then none
    else if val B a 1 = 1 then (if B.length < a + 9 then none else some (.mk 1 (si64 (val B (a + 1) 8)) false [] 0 ⟨#[]⟩ [], p - 1, a + 9))
    else if val B a 1 = 2 then
      (if B.length < a + 2 ∨ 1 < val B (a + 1) 1 ∨ B.length < a + 3 ∨ B.length < a + 3 + 4 * val B (a + 2) 1 then none
       else some (.mk 2 0 (decide (val B (a + 1) 1 = 1)) (limbsAt B (a + 3) (val B (a + 2) 1)) 0 ⟨#[]⟩ [], p - 1, a + 3 + 4 * val B (a + 2) 1))
    else if val B a 1 = 3 then (if B.length < a + 9 then none else some (.mk 3 0 false [] (val B (a + 1) 8) ⟨#[]⟩ [], p - 1, a + 9))
    else if val B a 1 = 4 ∨ val B a 1 = 5 then (if B.length < a + 2 then none else some (.mk (val B a 1) (val B (a + 1) 1) false [] 0 ⟨#[]⟩ [], p - 1, a + 2))
    else if val B a 1 = 6 then (if B.length < a + 2 then none else (decs (dec S B f) (val B (a + 1) 1) (p - 1) (a + 2)).map fun x => (.mk 6 0 false [] 0 ⟨#[]⟩ x.1, x.2))
    else if val B a 1 = 7 then some (.mk 7 0 false [] 0 ⟨#[]⟩ [], p - 1, a + 1)
    else if val B a 1 = 8 then (decs (dec S B f) 2 (p - 1) (a + 1)).map fun x => (.mk 8 0 false [] 0 ⟨#[]⟩ x.1, x.2)
    else if val B a 1 = 9 then
      (if B.length < a + 3 ∨ B.length < a + 3 + val B (a + 1) 2 then none
       else some (.mk 9 0 false [] 0 (str ((B.drop (a + 3)).take (val B (a + 1) 2))) [], p - 1, a + 3 + val B (a + 1) 2))
    else if S then none else some (.mk (val B a 1) 0 false [] 0 ⟨#[]⟩ [], p - 1, a + 1)

set_option maxRecDepth 100000 in
theorem decs_none {D : Nat → Nat → Option (Tm × Nat × Nat)} {j p a : Nat} (h : decs D j p a = none) : ∀ m, j ≤ m → decs D m p a = none := by
  intro m hm
  induction m with
  | zero => have : j = 0 := by omega
            subst this; exact h
  | succ m ih =>
    by_cases e : j = m + 1
    · subst e; exact h
    · rw [decs, ih (by omega)]; rfl
set_option maxRecDepth 100000 in
theorem decs_step {D : Nat → Nat → Option (Tm × Nat × Nat)} {j p a : Nat} {ts : List Tm} {q c : Nat} (h : decs D j p a = some (ts, q, c)) : decs D (j + 1) p a = (D q c).map fun y => (ts ++ [y.1], y.2) := by rw [decs, h]; rfl
set_option maxRecDepth 100000 in
theorem decs_len {D : Nat → Nat → Option (Tm × Nat × Nat)} : ∀ {m p a : Nat} {ts : List Tm} {q c : Nat}, decs D m p a = some (ts, q, c) → ts.length = m
  | 0, _, _, _, _, _, h => by simp [decs] at h; simp [← h.1]
  | m + 1, p, a, ts, q, c, h => by
    rw [decs] at h
    cases e : decs D m p a with
    | none => rw [e] at h; cases h
    | some x =>
      rw [e] at h
      obtain ⟨xs, q', c'⟩ := x
      have := decs_len e
      simp only [Option.bind_some, Option.map_eq_some_iff, Prod.mk.injEq] at h
      obtain ⟨y, _, h, _⟩ := h
      rw [← h]
      simp [this]
set_option maxRecDepth 100000 in
theorem val_lt {B : List Nat} (h : Small B) (a m : Nat) : val B a m < 256 ^ m := by
  have h1 := beq_lt (small_take (small_drop h a) m)
  have h2 : 256 ^ ((B.drop a).take m).length ≤ 256 ^ m := Nat.pow_le_pow_right (by omega) (List.length_take_le _ _)
  unfold val
  omega
set_option maxRecDepth 100000 in
theorem bes_val {B : List Nat} (h : Small B) {a m : Nat} (hm : a + m ≤ B.length) : bes (val B a m) m = (B.drop a).take m := by
  have h1 := bes_beq (small_take (small_drop h a) m)
  rw [List.length_take, List.length_drop, Nat.min_eq_left (by omega)] at h1
  exact h1
set_option maxRecDepth 100000 in
theorem val_one {B : List Nat} {a : Nat} (h : a < B.length) : val B a 1 = B.getD a 0 ∧ (B.drop a).take 1 = [B.getD a 0] := by
  have e : (B.drop a).take 1 = [B.getD a 0] := by
    rw [List.drop_eq_getElem_cons h, List.take_succ_cons, List.take_zero, List.getD_eq_getElem?_getD, List.getElem?_eq_getElem h]
    rfl
  exact ⟨by unfold val; rw [e]; simp [beq], e⟩
set_option maxRecDepth 100000 in
/-- Two pieces, one behind the other. -/
theorem piece (B : List Nat) (a m n : Nat) : (B.drop a).take (m + n) = (B.drop a).take m ++ (B.drop (a + m)).take n := by
  rw [List.take_add, List.drop_drop]
set_option maxRecDepth 100000 in
theorem limbs_at {B : List Nat} (h : Small B) (a : Nat) : ∀ m, a + 4 * m ≤ B.length → limbs (limbsAt B a m) = (B.drop a).take (4 * m)
  | 0, _ => by simp [limbsAt, limbs]
  | m + 1, hm => by
    have ih := limbs_at h a m (by omega)
    unfold limbsAt at ih ⊢
    rw [List.range_succ, List.map_append, List.map_singleton, limbs_snoc, ih, bes_val h (by omega), show 4 * (m + 1) = 4 * m + 4 from rfl, piece]
set_option maxRecDepth 100000 in
theorem limbsAt_len (B : List Nat) (a m : Nat) : (limbsAt B a m).length = m := by simp [limbsAt]
set_option maxRecDepth 100000 in
theorem limbsAt_lt {B : List Nat} (h : Small B) (a m : Nat) : ∀ x ∈ limbsAt B a m, x < 4294967296 := by
  intro x hx
  obtain ⟨i, _, rfl⟩ := List.mem_map.1 hx
  exact val_lt h (a + 4 * i) 4
set_option maxRecDepth 100000 in
theorem si_enc (x : Nat) (h : x < 18446744073709551616) : (si64 x % 18446744073709551616).toNat = x := by
  unfold si64
  split <;> omega

set_option maxRecDepth 100000 in
/-- What is read stands there, as it would be laid. -/
theorem dec_back {S : Bool} {B : List Nat} (hB : Small B) : ∀ (f p a : Nat) (t : Tm) (q c : Nat), dec S B f p a = some (t, q, c) →
    a ≤ c ∧ c ≤ B.length ∧ q + t.size = p ∧ (t.Ok ∧ Fit t) ∧ enc t = (B.drop a).take (c - a) := by
  intro f
  induction f with
  | zero => intro p a t q c h; simp [dec] at h
  | succ f ih =>
    intro p a t q c h
    have hs : ∀ (m p a : Nat) (ts : List Tm) (q c : Nat), decs (dec S B f) m p a = some (ts, q, c) → a ≤ B.length → a ≤ c ∧ c ≤ B.length ∧ q + Tm.size.sizes ts = p ∧ (∀ t ∈ ts, t.Ok ∧ Fit t) ∧ encs ts = (B.drop a).take (c - a) := by
      intro m
      induction m with
      | zero =>
        intro p a ts q c h ha
        simp only [decs, Option.some.injEq, Prod.mk.injEq] at h
        obtain ⟨rfl, rfl, rfl⟩ := h
        exact ⟨Nat.le_refl _, ha, rfl, fun _ h => (nomatch h), by simp [encs]⟩
      | succ m ihm =>
        intro p a ts q c h ha
        rw [decs] at h
        cases e : decs (dec S B f) m p a with
        | none => rw [e] at h; cases h
        | some x =>
          obtain ⟨xs, q', c'⟩ := x
          rw [e] at h
          simp only [Option.bind_some, Option.map_eq_some_iff, Prod.mk.injEq, Prod.exists] at h
          obtain ⟨y, q'', c'', h, rfl, rfl, rfl⟩ := h
          obtain ⟨a1, a2, a3, a4, a5⟩ := ihm p a xs q' c' e ha
          obtain ⟨b1, b2, b3, b4, b5⟩ := ih q' c' y q'' c'' h
          refine ⟨by omega, b2, by rw [sizes_append, Tm.size.sizes, Tm.size.sizes]; omega, ?_, ?_⟩
          · intro t ht
            rcases List.mem_append.1 ht with ht | ht
            · exact a4 t ht
            · simp at ht; rw [ht]; exact b4
          · rw [encs_append, a5, encs, encs, List.append_nil, b5, show c'' - a = (c' - a) + (c'' - c') from by omega, piece, show a + (c' - a) = c' from by omega]
    rw [dec] at h
    by_cases h0 : p = 0 ∨ B.length < a + 1
    · rw [if_pos h0] at h; cases h
    rw [if_neg h0] at h
    have hv := (val_one (B := B) (a := a) (by omega))
    have hk : val B a 1 < 256 := val_lt hB a 1
    have hd : ∀ n, (B.drop a).take (1 + n) = val B a 1 :: (B.drop (a + 1)).take n := fun n => by rw [piece, hv.2, hv.1]; rfl
    generalize val B a 1 = k at *
    have hkk : ((k : Int) % 256).toNat = k := by omega
    by_cases h1 : k = 1
    · rw [if_pos h1] at h
      split at h
      · cases h
      · cases h
        refine ⟨by omega, by omega, by simp only [Tm.size, Tm.size.sizes]; omega, ⟨Tm.ok_mk.2 ⟨by simp, by simp [ByteArray.size], by simp⟩, fit_mk.2 ⟨by simp, by omega, by omega, by simp⟩⟩, ?_⟩
        rw [show a + 9 - a = 1 + 8 from by omega, hd, ← bes_val hB (by omega), h1, enc, body, if_pos rfl, si_enc _ (val_lt hB (a + 1) 8), encs, List.append_nil]
        rfl
    rw [if_neg h1] at h
    by_cases h2 : k = 2
    · rw [if_pos h2] at h
      split at h
      · cases h
      · cases h
        rename_i hc
        simp only [not_or, Nat.not_lt] at hc
        have hm : val B (a + 2) 1 < 256 := val_lt hB (a + 2) 1
        refine ⟨by omega, by omega, by simp only [Tm.size, Tm.size.sizes]; omega, ⟨Tm.ok_mk.2 ⟨by rw [limbsAt_len]; omega, by simp [ByteArray.size], by simp⟩, fit_mk.2 ⟨limbsAt_lt hB _ _, by omega, by omega, by simp⟩⟩, ?_⟩
        have w1 := val_one (B := B) (a := a + 1) (by omega)
        have w2 := val_one (B := B) (a := a + 2) (by omega)
        rw [show a + 3 + 4 * val B (a + 2) 1 - a = 1 + (1 + (1 + 4 * val B (a + 2) 1)) from by omega, hd, piece B (a + 1), w1.2, piece B (a + 1 + 1), w2.2, ← w1.1, ← w2.1, show a + 1 + 1 + 1 = a + 3 from rfl, ← limbs_at hB _ _ (by omega)]
        rw [h2, enc, body, if_neg (by omega), if_pos rfl, limbsAt_len, Nat.mod_eq_of_lt hm, encs, List.append_nil]
        have : (if decide (val B (a + 1) 1 = 1) = true then 1 else 0) = val B (a + 1) 1 := by
          by_cases e : val B (a + 1) 1 = 1
          · simp [e]
          · simp [e]; omega
        rw [this]
        rfl
    rw [if_neg h2] at h
    by_cases h3 : k = 3
    · rw [if_pos h3] at h
      split at h
      · cases h
      · cases h
        refine ⟨by omega, by omega, by simp only [Tm.size, Tm.size.sizes]; omega, ⟨Tm.ok_mk.2 ⟨by simp, by simp [ByteArray.size], by simp⟩, fit_mk.2 ⟨by simp, by omega, by have : val B (a + 1) 8 < 256 ^ 8 := val_lt hB (a + 1) 8; omega, by simp⟩⟩, ?_⟩
        rw [show a + 9 - a = 1 + 8 from by omega, hd, ← bes_val hB (by omega), h3, enc, body, if_neg (by omega), if_neg (by omega), if_pos rfl, Int.toNat_natCast, encs, List.append_nil]
        rfl
    rw [if_neg h3] at h
    by_cases h4 : k = 4 ∨ k = 5
    · rw [if_pos h4] at h
      split at h
      · cases h
      · cases h
        have w1 := val_one (B := B) (a := a + 1) (by omega)
        have hm : val B (a + 1) 1 < 256 := val_lt hB (a + 1) 1
        refine ⟨by omega, by omega, by simp only [Tm.size, Tm.size.sizes]; omega, ⟨Tm.ok_mk.2 ⟨by simp, by simp [ByteArray.size], by simp⟩, fit_mk.2 ⟨by simp, by omega, by omega, by simp⟩⟩, ?_⟩
        rw [show a + 2 - a = 1 + 1 from by omega, hd, w1.2, ← w1.1, enc, body, if_neg (by omega), if_neg (by omega), if_neg (by omega), if_pos (by omega), encs, List.append_nil, hkk]
        congr 2
        omega
    rw [if_neg h4] at h
    by_cases h6 : k = 6
    · rw [if_pos h6] at h
      split at h
      · cases h
      · rename_i hc
        simp only [Option.map_eq_some_iff, Prod.mk.injEq, Prod.exists] at h
        obtain ⟨xs, q', c', h, rfl, rfl, rfl⟩ := h
        have w1 := val_one (B := B) (a := a + 1) (by omega)
        have hm : val B (a + 1) 1 < 256 := val_lt hB (a + 1) 1
        have hlen := decs_len h
        obtain ⟨a1, a2, a3, a4, a5⟩ := hs _ _ _ _ _ _ h (by omega)
        refine ⟨by omega, by omega, by simp only [Tm.size]; omega, ⟨Tm.ok_mk.2 ⟨by simp, by simp [ByteArray.size], fun x hx => (a4 x hx).1⟩, fit_mk.2 ⟨by simp, by omega, by omega, fun x hx => (a4 x hx).2⟩⟩, ?_⟩
        rw [show c' - a = 1 + (1 + (c' - (a + 2))) from by omega, hd, piece B (a + 1), w1.2, ← w1.1, show a + 1 + 1 = a + 2 from rfl, ← a5, h6, enc, body, if_neg (by omega), if_neg (by omega), if_neg (by omega), if_neg (by omega), if_pos rfl, hlen, Nat.mod_eq_of_lt hm]
        rfl
    rw [if_neg h6] at h
    by_cases h7 : k = 7
    · rw [if_pos h7] at h
      cases h
      refine ⟨by omega, by omega, by simp only [Tm.size, Tm.size.sizes]; omega, ⟨Tm.ok_mk.2 ⟨by simp, by simp [ByteArray.size], by simp⟩, fit_mk.2 ⟨by simp, by omega, by omega, by simp⟩⟩, ?_⟩
      rw [show a + 1 - a = 1 + 0 from by omega, hd, h7, enc, body, if_neg (by omega), if_neg (by omega), if_neg (by omega), if_neg (by omega), if_neg (by omega), if_neg (by omega), encs]
      rfl
    rw [if_neg h7] at h
    by_cases h8 : k = 8
    · rw [if_pos h8] at h
      simp only [Option.map_eq_some_iff, Prod.mk.injEq, Prod.exists] at h
      obtain ⟨xs, q', c', h, rfl, rfl, rfl⟩ := h
      obtain ⟨a1, a2, a3, a4, a5⟩ := hs _ _ _ _ _ _ h (by omega)
      refine ⟨by omega, by omega, by simp only [Tm.size]; omega, ⟨Tm.ok_mk.2 ⟨by simp, by simp [ByteArray.size], fun x hx => (a4 x hx).1⟩, fit_mk.2 ⟨by simp, by omega, by omega, fun x hx => (a4 x hx).2⟩⟩, ?_⟩
      rw [show c' - a = 1 + (c' - (a + 1)) from by omega, hd, ← a5, h8, enc, body, if_neg (by omega), if_neg (by omega), if_neg (by omega), if_neg (by omega), if_neg (by omega), if_neg (by omega)]
      rfl
    rw [if_neg h8] at h
    by_cases h9 : k = 9
    · rw [if_pos h9] at h
      split at h
      · cases h
      · cases h
        rename_i hc
        simp only [not_or, Nat.not_lt] at hc
        have hm : val B (a + 1) 2 < 65536 := val_lt hB (a + 1) 2
        have hsz : (str ((B.drop (a + 3)).take (val B (a + 1) 2))).size = val B (a + 1) 2 := by rw [str_size, List.length_take, List.length_drop]; omega
        refine ⟨by omega, by omega, by simp only [Tm.size, Tm.size.sizes]; omega, ⟨Tm.ok_mk.2 ⟨by simp, by rw [hsz]; omega, by simp⟩, fit_mk.2 ⟨by simp, by omega, by omega, by simp⟩⟩, ?_⟩
        rw [show a + 3 + val B (a + 1) 2 - a = 1 + (2 + val B (a + 1) 2) from by omega, hd, piece B (a + 1), ← bes_val hB (a := a + 1) (m := 2) (by omega), h9, enc, body, if_neg (by omega), if_neg (by omega), if_neg (by omega), if_neg (by omega), if_neg (by omega), if_pos rfl, hsz, txt_str (small_take (small_drop hB _) _), encs, List.append_nil]
        rfl
    rw [if_neg h9] at h
    split at h
    · cases h
    · cases h
      refine ⟨by omega, by omega, by simp only [Tm.size, Tm.size.sizes]; omega, ⟨Tm.ok_mk.2 ⟨by simp, by simp [ByteArray.size], by simp⟩, fit_mk.2 ⟨by simp, by omega, by omega, by simp⟩⟩, ?_⟩
      rw [show a + 1 - a = 1 + 0 from by omega, hd, enc, body, if_neg (by omega), if_neg (by omega), if_neg (by omega), if_neg (by omega), if_neg (by omega), if_neg (by omega), encs, hkk]
      rfl
end Wr
end Go.Proofs.Ytomohdfcggghoaa

namespace Go.Proofs.Ytomohdfcggghoaa
namespace Wr

set_option maxRecDepth 100000 in
theorem ment_of {t : Tm} (h : Tm.alikeB t t.ment = true) : t = t.ment := by
  simp only [Tm.alikeB, Bool.and_eq_true, beq_iff_eq, decide_eq_true_eq] at h
  obtain ⟨⟨⟨⟨⟨h1, h2⟩, h3⟩, h4⟩, h5⟩, h6, h7⟩ := h
  cases t with
  | mk k n g l u s ks =>
    have ha : ks = (Tm.ment (.mk k n g l u s ks)).args := by
      simp only [Tm.ment] at h7 ⊢
      split
      · rw [if_pos ‹_›] at h7; simp only [Tm.args, List.length_nil, List.length_eq_zero_iff] at h7 ⊢; exact h7
      rw [if_neg ‹_›] at h7
      split
      · rw [if_pos ‹_›] at h7; simp only [Tm.args, List.length_nil, List.length_eq_zero_iff] at h7 ⊢; exact h7
      rw [if_neg ‹_›] at h7
      split
      · rw [if_pos ‹_›] at h7; simp only [Tm.args, List.length_nil, List.length_eq_zero_iff] at h7 ⊢; exact h7
      rw [if_neg ‹_›] at h7
      split
      · rfl
      rw [if_neg ‹_›] at h7
      split
      · rw [if_pos ‹_›] at h7; simp only [Tm.args, List.length_nil, List.length_eq_zero_iff] at h7 ⊢; exact h7
      rw [if_neg ‹_›] at h7
      split
      · rw [if_pos ‹_›] at h7; simp only [Tm.args, List.length_nil, List.length_eq_zero_iff] at h7 ⊢; exact h7
      rw [if_neg ‹_›] at h7
      simp only [Tm.args, List.length_nil, List.length_eq_zero_iff] at h7 ⊢; exact h7
    generalize Tm.ment (.mk k n g l u s ks) = t' at *
    cases t'
    simp only [Tm.kind, Tm.num, Tm.neg, Tm.mag, Tm.bits, Tm.bytes, Tm.args] at *
    subst h1 h2 h3 h4 h5 h6 ha
    rfl
set_option maxRecDepth 100000 in
/-- What a valid term is, kind by kind. -/
theorem form_cases {t : Tm} (h : t.formB = true) :
    (∃ n, t = .mk 1 n false [] 0 ⟨#[]⟩ [] ∧ -1152921504606846976 ≤ n ∧ n ≤ 1152921504606846975) ∨ (∃ g l, t = .mk 2 0 g l 0 ⟨#[]⟩ [] ∧ l.length ≤ 8) ∨ (∃ u, t = .mk 3 0 false [] u ⟨#[]⟩ []) ∨
    (∃ k n, t = .mk k n false [] 0 ⟨#[]⟩ [] ∧ (k = 4 ∨ k = 5) ∧ 0 ≤ n ∧ n ≤ 255) ∨ (∃ ks, t = .mk 6 0 false [] 0 ⟨#[]⟩ ks ∧ ks.length ≤ 8 ∧ ∀ x ∈ ks, x.formB = true) ∨ t = .mk 7 0 false [] 0 ⟨#[]⟩ [] ∨
    (∃ ks, t = .mk 8 0 false [] 0 ⟨#[]⟩ ks ∧ ks.length = 2 ∧ ∀ x ∈ ks, x.formB = true) ∨ (∃ s, t = .mk 9 0 false [] 0 s [] ∧ s.size ≤ 400) := by
  rw [Tm.formB_eq, Bool.and_eq_true, Bool.and_eq_true, Tm.formsB_iff] at h
  obtain ⟨h1, h2, h3⟩ := h
  have hm := ment_of h1
  clear h1
  cases t with
  | mk k n g l u s ks =>
    unfold Tm.boundB at h2
    change (if k = 1 then decide (-1152921504606846976 ≤ n) && decide (n ≤ 1152921504606846975)
      else if k = 2 then mayB g l && !smOk g l
      else if k = 3 then cleanI u == u
      else if k = 4 then decide (0 ≤ n) && decide (n ≤ 255)
      else if k = 5 then decide (0 ≤ n) && decide (n ≤ 63)
      else if k = 6 then decide (ks.length ≤ 8)
      else if k = 7 then true
      else if k = 8 then decide (ks.length = 2)
      else if k = 9 then decide (s.size ≤ 400)
      else false) = true at h2
    change ∀ x ∈ ks, x.formB = true at h3
    simp only [Tm.ment] at hm
    by_cases e1 : k = 1
    · subst e1
      simp at hm h2
      exact .inl ⟨n, by rw [hm.1, hm.2.1, hm.2.2.1, hm.2.2.2.1, hm.2.2.2.2], by omega, by omega⟩
    by_cases e2 : k = 2
    · subst e2
      simp at hm h2
      exact .inr (.inl ⟨g, l, by rw [hm.1, hm.2.1, hm.2.2.1, hm.2.2.2], mayB_len h2.1⟩)
    by_cases e3 : k = 3
    · subst e3
      simp at hm
      exact .inr (.inr (.inl ⟨u, by rw [hm.1, hm.2.1, hm.2.2.1, hm.2.2.2.1, hm.2.2.2.2]⟩))
    by_cases e4 : k = 4 ∨ k = 5
    · refine .inr (.inr (.inr (.inl ⟨k, n, ?_, e4, ?_⟩)))
      · rcases e4 with rfl | rfl <;> simp at hm <;> rw [hm.1, hm.2.1, hm.2.2.1, hm.2.2.2.1, hm.2.2.2.2]
      · rcases e4 with rfl | rfl <;> simp at h2 <;> omega
    by_cases e6 : k = 6
    · subst e6
      simp at hm h2
      exact .inr (.inr (.inr (.inr (.inl ⟨ks, by rw [hm.1, hm.2.1, hm.2.2.1, hm.2.2.2.1, hm.2.2.2.2], h2, h3⟩))))
    by_cases e7 : k = 7
    · subst e7
      simp at hm
      exact .inr (.inr (.inr (.inr (.inr (.inl (by rw [hm.1, hm.2.1, hm.2.2.1, hm.2.2.2.1, hm.2.2.2.2.1, hm.2.2.2.2.2]))))))
    by_cases e8 : k = 8
    · subst e8
      simp at hm h2
      exact .inr (.inr (.inr (.inr (.inr (.inr (.inl ⟨ks, by rw [hm.1, hm.2.1, hm.2.2.1, hm.2.2.2.1, hm.2.2.2.2], h2, h3⟩))))))
    by_cases e9 : k = 9
    · subst e9
      simp at hm h2
      exact .inr (.inr (.inr (.inr (.inr (.inr (.inr ⟨s, by rw [hm.1, hm.2.1, hm.2.2.1, hm.2.2.2.1, hm.2.2.2.2], h2⟩))))))
    · exfalso
      rw [if_neg e1, if_neg e2, if_neg e3, if_neg (by omega), if_neg (by omega), if_neg e6, if_neg e7, if_neg e8, if_neg e9] at h2
      cases h2
set_option maxRecDepth 100000 in
theorem size_wt (t : Tm) : t.formB = true → t.size ≤ t.wt := by
  induction t using Tm.ind with
  | h k n g l u s ks ih =>
    intro hf
    have hsum : (∀ x ∈ ks, x.formB = true) → ∀ xs : List Tm, (∀ x ∈ xs, x ∈ ks) → Tm.size.sizes xs ≤ Tm.wts xs := by
      intro hk xs
      induction xs with
      | nil => intro _; simp [Tm.size.sizes, Tm.wts]
      | cons x r ihr =>
        intro hx
        have h1 := ih x (hx x (by simp)) (hk x (hx x (by simp)))
        have h2 := ihr fun y hy => hx y (by simp [hy])
        simp only [Tm.size.sizes, Tm.wts]
        omega
    have leaf : ks = [] → Tm.size (.mk k n g l u s ks) ≤ Tm.wt (.mk k n g l u s ks) := by
      rintro rfl
      have := Tm.wt_pos (.mk k n g l u s [])
      rw [Tm.size]
      simp only [Tm.size.sizes]
      omega
    rcases form_cases hf with ⟨_, e, _⟩ | ⟨_, _, e, _⟩ | ⟨_, e⟩ | ⟨_, _, e, _⟩ | ⟨ks', e, _, hk⟩ | e | ⟨ks', e, _, hk⟩ | ⟨_, e, _⟩
    all_goals injection e with e1 e2 e3 e4 e5 e6 e7
    case inr.inr.inr.inr.inl =>
      subst e7
      have := hsum hk ks fun _ h => h
      rw [Tm.size, Tm.wt, if_neg (by omega), if_neg (by omega), if_pos (by omega)]
      omega
    case inr.inr.inr.inr.inr.inr.inl =>
      subst e7
      have := hsum hk ks fun _ h => h
      rw [Tm.size, Tm.wt, if_neg (by omega), if_neg (by omega), if_pos (by omega)]
      omega
    all_goals exact leaf e7
set_option maxRecDepth 100000 in
theorem enc_short (t : Tm) : t.formB = true → (enc t).length ≤ 500 * t.size := by
  induction t using Tm.ind with
  | h k n g l u s ks ih =>
    intro hf
    have hsum : (∀ x ∈ ks, x.formB = true) → ∀ xs : List Tm, (∀ x ∈ xs, x ∈ ks) → (encs xs).length ≤ 500 * Tm.size.sizes xs := by
      intro hk xs
      induction xs with
      | nil => intro _; simp [encs]
      | cons x r ihr =>
        intro hx
        have h1 := ih x (hx x (by simp)) (hk x (hx x (by simp)))
        have h2 := ihr fun y hy => hx y (by simp [hy])
        rw [encs, List.length_append, Tm.size.sizes]
        omega
    have h2 := body_len k n g l u s ks.length
    have h3 : l.length ≤ 8 ∧ s.size ≤ 400 ∧ (encs ks).length ≤ 500 * Tm.size.sizes ks := by
      have z : (⟨#[]⟩ : ByteArray).size = 0 := rfl
      rcases form_cases hf with ⟨_, e, _⟩ | ⟨_, _, e, b⟩ | ⟨_, e⟩ | ⟨_, _, e, _⟩ | ⟨ks', e, _, hk⟩ | e | ⟨ks', e, _, hk⟩ | ⟨_, e, b⟩
      all_goals injection e with e1 e2 e3 e4 e5 e6 e7
      case inr.inr.inr.inr.inl =>
        subst e7
        exact ⟨by rw [e4]; simp, by rw [e6, z]; omega, hsum hk ks fun _ h => h⟩
      case inr.inr.inr.inr.inr.inr.inl =>
        subst e7
        exact ⟨by rw [e4]; simp, by rw [e6, z]; omega, hsum hk ks fun _ h => h⟩
      case inr.inl =>
        exact ⟨by rw [e4]; exact b, by rw [e6, z]; omega, by rw [e7]; simp [encs]⟩
      case inr.inr.inr.inr.inr.inr.inr =>
        exact ⟨by rw [e4]; simp, by rw [e6]; exact b, by rw [e7]; simp [encs]⟩
      all_goals exact ⟨by rw [e4]; simp, by rw [e6, z]; omega, by rw [e7]; simp [encs]⟩
    rw [enc, Tm.size, List.length_cons, List.length_append]
    omega
set_option maxRecDepth 100000 in
theorem may_size {t : Tm} (h : t.mayB = true) : t.formB = true ∧ t.size ≤ 300 := by
  unfold Tm.mayB at h
  rw [Bool.and_eq_true, decide_eq_true_eq] at h
  have h1 := size_wt t h.2
  have h2 := h.1
  unfold Tm.cap at h2
  exact ⟨h.2, by omega⟩

set_option maxRecDepth 100000 in
theorem here {B x r : List Nat} {a : Nat} (h : B.drop a = x ++ r) : (B.drop a).take x.length = x ∧ B.drop (a + x.length) = r := by
  constructor
  · rw [h, List.take_left]
  · rw [← List.drop_drop, h, List.drop_left]
set_option maxRecDepth 100000 in
theorem here_len {B x r : List Nat} {a : Nat} (ha : a ≤ B.length) (h : B.drop a = x ++ r) : a + x.length ≤ B.length := by
  have := congrArg List.length h
  rw [List.length_drop, List.length_append] at this
  omega
set_option maxRecDepth 100000 in
theorem val_here {B x r : List Nat} {a : Nat} (h : B.drop a = x ++ r) {m : Nat} (hm : x.length = m) : val B a m = beq x := by
  unfold val
  rw [← hm, (here h).1]
set_option maxRecDepth 100000 in
theorem limbs_here {B : List Nat} : ∀ (l : List Nat) (r : List Nat) (a : Nat), (∀ x ∈ l, x < 4294967296) → B.drop a = limbs l ++ r → limbsAt B a l.length = l
  | [], _, _, _, _ => rfl
  | x :: l, r, a, hs, h => by
    have h1 : B.drop a = bes x 4 ++ (limbs l ++ r) := by rw [h]; simp [limbs]
    have h2 := (here h1).2
    rw [bes_len] at h2
    have ih := limbs_here l r (a + 4) (fun y hy => hs y (by simp [hy])) h2
    have hv := val_here h1 (bes_len x 4)
    rw [beq_bes, Nat.mod_eq_of_lt (hs x (by simp))] at hv
    unfold limbsAt at ih ⊢
    rw [List.length_cons, List.range_succ_eq_map, List.map_cons, List.map_map, Nat.mul_zero, Nat.add_zero, hv]
    congr 1
    rw [← ih, List.length_map, List.length_range]
    apply List.map_congr_left
    intro i _
    show val B (a + 4 * (i + 1)) 4 = val B (a + 4 + 4 * i) 4
    congr 1
    omega

set_option maxRecDepth 100000 in
/-- What is laid is read again. -/
theorem dec_enc {S : Bool} {B : List Nat} (t : Tm) : t.formB = true → Fit t → ∀ (f p a : Nat) (r : List Nat), t.size ≤ p → p ≤ f → a ≤ B.length → B.drop a = enc t ++ r →
    dec S B f p a = some (t, p - t.size, a + (enc t).length) := by
  induction t using Tm.ind with
  | h k n g l u s ks ih =>
    intro hf hfit f p a r hp hpf ha hB
    have hfit := fit_mk.1 hfit
    have hsz : 1 ≤ Tm.size (.mk k n g l u s ks) := by rw [Tm.size]; omega
    obtain ⟨f, rfl⟩ : ∃ f', f = f' + 1 := ⟨f - 1, by omega⟩
    have hs : (∀ x ∈ ks, x.formB = true) → ∀ (q c : Nat) (r : List Nat), Tm.size.sizes ks ≤ q → q ≤ f → c ≤ B.length → B.drop c = encs ks ++ r → ∀ j, j ≤ ks.length →
        decs (dec S B f) j q c = some (ks.take j, q - Tm.size.sizes (ks.take j), c + (encs (ks.take j)).length) := by
      intro hk q c r hq hqf hc hBc j
      induction j with
      | zero => intro _; simp [decs, Tm.size.sizes, encs]
      | succ j ihj =>
        intro hj
        have hg : ks[j]? = some ks[j] := List.getElem?_eq_getElem (by omega)
        have hmem : ks[j] ∈ ks := List.getElem_mem (by omega)
        have e1 : ks.take (j + 1) = ks.take j ++ [ks[j]] := by rw [List.take_add_one, hg]; rfl
        have e2 : encs (ks.take (j + 1)) = encs (ks.take j) ++ enc ks[j] := encs_take hg
        have e3 : Tm.size.sizes (ks.take (j + 1)) = Tm.size.sizes (ks.take j) + ks[j].size := by rw [e1, sizes_append, Tm.size.sizes, Tm.size.sizes, Nat.add_zero]
        have e4 : encs ks = encs (ks.take (j + 1)) ++ encs (ks.drop (j + 1)) := by rw [← encs_append, List.take_append_drop]
        have e5 : Tm.size.sizes ks = Tm.size.sizes (ks.take (j + 1)) + Tm.size.sizes (ks.drop (j + 1)) := by rw [← sizes_append, List.take_append_drop]
        have hB1 : B.drop c = encs (ks.take j) ++ (enc ks[j] ++ (encs (ks.drop (j + 1)) ++ r)) := by rw [hBc, e4, e2, List.append_assoc, List.append_assoc]
        have h1 := ih ks[j] hmem (hk _ hmem) (hfit.2.2.2 _ hmem) f (q - Tm.size.sizes (ks.take j)) (c + (encs (ks.take j)).length) _ (by omega) (by omega) (here_len hc hB1) (here hB1).2
        rw [decs_step (ihj (by omega)), h1, e2, e3, e1, List.length_append]
        simp only [Option.map_some]
        rw [Nat.sub_sub, Nat.add_assoc]
    rw [enc] at hB ⊢
    have hB1 : B.drop a = [(k % 256).toNat] ++ (body k n g l u s ks.length ++ (encs ks ++ r)) := by rw [hB]; simp
    have hl1 := here_len ha hB1
    have hv1 : val B a 1 = (k % 256).toNat := by rw [val_here hB1 (m := 1) rfl]; simp [beq]
    have hB2 := (here hB1).2
    simp only [List.length_singleton] at hl1 hB2
    rw [dec, if_neg (by omega), hv1]
    rcases form_cases hf with ⟨n', e, b1, b2⟩ | ⟨g', l', e, b⟩ | ⟨u', e⟩ | ⟨k', n', e, bk, b1, b2⟩ | ⟨ks', e, b, hk⟩ | e | ⟨ks', e, b, hk⟩ | ⟨s', e, b⟩
    all_goals injection e with e1 e2 e3 e4 e5 e6 e7
    · subst e1 e2 e3 e4 e5 e6 e7
      rw [body, if_pos rfl] at hB2
      have hl2 := here_len (by omega) hB2
      have hv := val_here hB2 (bes_len _ 8)
      rw [bes_len] at hl2
      rw [beq_bes] at hv
      rw [if_pos (by decide), if_neg (by omega), hv, Tm.size, Tm.size.sizes, body, if_pos rfl, List.length_cons, List.length_append, bes_len, encs]
      have : si64 ((n % 18446744073709551616).toNat % 256 ^ 8) = n := by unfold si64; split <;> omega
      rw [this]
      rfl
    · subst e1 e2 e4 e5 e6 e7
      subst e3
      have hbd : body 2 0 g l 0 ⟨#[]⟩ ([] : List Tm).length = (if g = true then 1 else 0) :: l.length % 256 :: limbs l := by rw [body, if_neg (by decide), if_pos rfl]
      rw [hbd] at hB2 ⊢
      have q1 : B.drop (a + 1) = [if g = true then 1 else 0] ++ ([l.length % 256] ++ (limbs l ++ ([] ++ r))) := by rw [hB2]; simp [encs]
      have q2 : B.drop (a + 2) = [l.length % 256] ++ (limbs l ++ ([] ++ r)) := (here q1).2
      have q3 : B.drop (a + 3) = limbs l ++ ([] ++ r) := (here q2).2
      have v1 : val B (a + 1) 1 = if g = true then 1 else 0 := by rw [val_here q1 (m := 1) rfl]; simp [beq]
      have v2 : val B (a + 2) 1 = l.length := by
        rw [val_here q2 (m := 1) rfl]
        simp [beq]
        omega
      have p1 : a + 1 + 1 ≤ B.length := here_len (by omega) q1
      have p2 : a + 2 + 1 ≤ B.length := here_len (by omega) q2
      have p3 := here_len (by omega) q3
      rw [limbs_len] at p3
      have hlm := limbs_here l _ _ hfit.1 q3
      have hg : decide ((if g = true then 1 else 0) = 1) = g := by cases g <;> rfl
      have hg2 : ¬ 1 < (if g = true then 1 else 0) := by cases g <;> decide
      rw [if_neg (by decide), if_pos (by decide), v1, v2, if_neg (by
        rintro (h | h | h | h)
        · omega
        · exact hg2 h
        · omega
        · omega), hlm, hg, Tm.size, Tm.size.sizes, List.length_cons, List.length_append, List.length_cons, List.length_cons, limbs_len, encs, List.length_nil]
      congr 3
      omega
    · subst e1 e2 e3 e4 e6 e7
      subst e5
      rw [body, if_neg (by decide), if_neg (by decide), if_pos rfl] at hB2
      have hl2 := here_len (by omega) hB2
      have hv := val_here hB2 (bes_len _ 8)
      rw [bes_len] at hl2
      rw [beq_bes] at hv
      rw [if_neg (by decide), if_neg (by decide), if_pos (by decide), if_neg (by omega), hv, Tm.size, Tm.size.sizes, body, if_neg (by decide), if_neg (by decide), if_pos rfl, List.length_cons, List.length_append, bes_len, encs]
      have : (((u.toNat % 256 ^ 8 : Nat)) : Int) = u := by have := hfit.2.1; have := hfit.2.2.1; omega
      rw [this]
      rfl
    · subst e1 e2 e3 e4 e5 e6 e7
      have hbd : body k n false [] 0 ⟨#[]⟩ ([] : List Tm).length = [(n % 256).toNat] := by rw [body, if_neg (by omega), if_neg (by omega), if_neg (by omega), if_pos bk]
      rw [hbd] at hB2 ⊢
      have hl2 := here_len (by omega) hB2
      have hv : val B (a + 1) 1 = (n % 256).toNat := by rw [val_here hB2 (m := 1) rfl]; simp [beq]
      simp only [List.length_singleton] at hl2
      rw [if_neg (by omega), if_neg (by omega), if_neg (by omega), if_pos (by omega), if_neg (by omega), hv, Tm.size, Tm.size.sizes, encs]
      have y1 : (((k % 256).toNat : Nat) : Int) = k := by omega
      have y2 : (((n % 256).toNat : Nat) : Int) = n := by omega
      rw [y1, y2]
      rfl
    · subst e1 e2 e3 e4 e5 e6
      subst e7
      have hbd : body 6 0 false [] 0 ⟨#[]⟩ ks.length = [ks.length % 256] := by rw [body, if_neg (by omega), if_neg (by omega), if_neg (by omega), if_neg (by omega), if_pos rfl]
      rw [hbd] at hB2 ⊢
      have hl2 := here_len (by omega) hB2
      have hv : val B (a + 1) 1 = ks.length := by rw [val_here hB2 (m := 1) rfl]; simp [beq]; omega
      have hB3 := (here hB2).2
      simp only [List.length_singleton] at hl2 hB3
      rw [Tm.size] at hp ⊢
      have := hs hk (p - 1) (a + 2) r (by omega) (by omega) (by omega) hB3 ks.length (Nat.le_refl _)
      rw [List.take_length] at this
      rw [if_neg (by decide), if_neg (by decide), if_neg (by decide), if_neg (by decide), if_pos (by decide), if_neg (by omega), hv, this]
      simp only [Option.map_some, List.length_cons, List.length_append, List.length_nil]
      congr 3
      · omega
      · omega
    · subst e1 e2 e3 e4 e5 e6 e7
      have hbd : body 7 0 false [] 0 ⟨#[]⟩ ([] : List Tm).length = [] := by rw [body, if_neg (by omega), if_neg (by omega), if_neg (by omega), if_neg (by omega), if_neg (by omega), if_neg (by omega)]
      rw [hbd, if_neg (by decide), if_neg (by decide), if_neg (by decide), if_neg (by decide), if_neg (by decide), if_pos (by decide), Tm.size, Tm.size.sizes, encs]
      rfl
    · subst e1 e2 e3 e4 e5 e6
      subst e7
      have hbd : body 8 0 false [] 0 ⟨#[]⟩ ks.length = [] := by rw [body, if_neg (by omega), if_neg (by omega), if_neg (by omega), if_neg (by omega), if_neg (by omega), if_neg (by omega)]
      rw [hbd] at hB2 ⊢
      rw [List.nil_append] at hB2
      rw [Tm.size] at hp ⊢
      have := hs hk (p - 1) (a + 1) r (by omega) (by omega) (by omega) hB2 ks.length (Nat.le_refl _)
      rw [List.take_length, b] at this
      rw [if_neg (by decide), if_neg (by decide), if_neg (by decide), if_neg (by decide), if_neg (by decide), if_neg (by decide), if_pos (by decide), this]
      simp only [Option.map_some, List.length_cons, List.nil_append]
      congr 3
      · omega
      · omega
    · subst e1 e2 e3 e4 e5 e7
      subst e6
      have hbd : body 9 0 false [] 0 s ([] : List Tm).length = bes s.size 2 ++ txt s := by rw [body, if_neg (by omega), if_neg (by omega), if_neg (by omega), if_neg (by omega), if_neg (by omega), if_pos rfl]
      rw [hbd] at hB2 ⊢
      rw [List.append_assoc] at hB2
      have hl2 := here_len (by omega) hB2
      have hv := val_here hB2 (bes_len _ 2)
      have hB3 := (here hB2).2
      rw [bes_len] at hl2 hB3
      have hl3 := here_len (by omega) hB3
      have hx := (here hB3).1
      rw [txt_len] at hl3 hx
      have hv2 : val B (a + 1) 2 = s.size := by rw [hv, beq_bes]; omega
      rw [if_neg (by decide), if_neg (by decide), if_neg (by decide), if_neg (by decide), if_neg (by decide), if_neg (by decide), if_neg (by decide), if_pos (by decide), hv2, if_neg (by omega), show a + 3 = a + 1 + 2 from rfl, hx, str_txt, Tm.size, Tm.size.sizes, List.length_cons, List.length_append, List.length_append, bes_len, txt_len, encs, List.length_nil]
      congr 3
      omega

/-- What Read answers: the term, and where it ends. -/
def readO (S : Bool) (B : List Nat) (a : Nat) : Option (Tm × Nat) :=
  match dec S B 300 300 a with
  | some (t, _, c) => if t.mayB = true then some (t, c) else none
  | none => none
set_option maxRecDepth 100000 in
theorem readO_some {S : Bool} {B : List Nat} (hB : Small B) {a : Nat} {t : Tm} {c : Nat} (h : readO S B a = some (t, c)) :
    t.mayB = true ∧ t.Ok ∧ Fit t ∧ a ≤ c ∧ c ≤ B.length ∧ enc t = (B.drop a).take (c - a) := by
  unfold readO at h
  split at h
  · rename_i t' q c' e
    by_cases hm : t'.mayB = true
    · rw [if_pos hm] at h
      cases h
      obtain ⟨h1, h2, _, h4, h5⟩ := dec_back hB _ _ _ _ _ _ e
      exact ⟨hm, h4.1, h4.2, h1, h2, h5⟩
    · rw [if_neg hm] at h; cases h
  · cases h
set_option maxRecDepth 100000 in
theorem readO_of {S : Bool} {B : List Nat} {a : Nat} {t : Tm} (ha : a ≤ B.length) (hm : t.mayB = true) (hf : Fit t) {r : List Nat} (h : B.drop a = enc t ++ r) : readO S B a = some (t, a + (enc t).length) := by
  obtain ⟨h1, h2⟩ := may_size hm
  unfold readO
  rw [dec_enc t h1 hf 300 300 a r h2 (Nat.le_refl _) ha h]
  simp only [hm, if_true]
set_option maxRecDepth 100000 in
theorem readO_turn {S S' : Bool} {B : List Nat} (hB : Small B) {a : Nat} {t : Tm} {c : Nat} (h : readO S B a = some (t, c)) : readO S' B a = some (t, c) := by
  obtain ⟨h1, _, h3, h4, h5, h6⟩ := readO_some hB h
  have hl : (enc t).length = c - a := by rw [h6, List.length_take, List.length_drop]; omega
  have := readO_of (S := S') (B := B) (a := a) (r := (B.drop a).drop (c - a)) (by omega) h1 h3 (by rw [h6, List.take_append_drop])
  rw [this, hl]
  congr 2
  omega
set_option maxRecDepth 100000 in
/-- The strict reader and the loose one answer the same. -/
theorem readO_same {B : List Nat} (hB : Small B) (a : Nat) : readO true B a = readO false B a := by
  cases h : readO true B a with
  | some x => exact (readO_turn hB h).symm
  | none =>
    cases h' : readO false B a with
    | none => rfl
    | some x => rw [readO_turn hB h'] at h; cases h
set_option maxRecDepth 100000 in
/-- Cut short, what was laid is none. -/
theorem readO_cut {B : List Nat} {a m : Nat} {t : Tm} {r : List Nat} (hB : Small B) (ha : a ≤ B.length) (hm : t.mayB = true) (hf : Fit t) (h : B.drop a = enc t ++ r) (hc : m < a + (enc t).length) : readO true (B.take m) a = none := by
  cases h' : readO true (B.take m) a with
  | none => rfl
  | some x =>
    exfalso
    obtain ⟨u, c⟩ := x
    obtain ⟨h1, _, h3, h4, h5, h6⟩ := readO_some (small_take hB m) h'
    rw [List.length_take] at h5
    have e1 : enc u = (B.drop a).take (c - a) := by
      rw [h6, List.drop_take, List.take_take, Nat.min_eq_left (by omega)]
    have e2 := readO_of (S := true) (B := B) (a := a) (r := (B.drop a).drop (c - a)) ha h1 h3 (by rw [e1, List.take_append_drop])
    have e3 := readO_of (S := true) ha hm hf h
    rw [e2] at e3
    have hl : (enc u).length ≤ c - a := by rw [e1]; exact List.length_take_le _ _
    simp only [Option.some.injEq, Prod.mk.injEq] at e3
    omega
set_option maxRecDepth 100000 in
theorem readO_out {S : Bool} {B : List Nat} {a : Nat} (h : B.length ≤ a) : readO S B a = none := by
  unfold readO
  rw [dec, if_pos (by omega)]
end Wr
end Go.Proofs.Ytomohdfcggghoaa

namespace Go.Proofs.Ytomohdfcggghoaa
open Go.RowKit

/-- The slice 'A, n, c' holds the limbs l. -/
def By (w : World) (A : Option Addr) (n c : Nat) (l : List Nat) : Prop :=
  l.length = n ∧ n ≤ c ∧ Wr.Small l ∧ (0 < n → ∃ b o, A = some ⟨b, o, none⟩ ∧ b < w.heap.size ∧ ∀ j, j < n → w.cell? ⟨b, o + j, none⟩ = some (.int .u8 (Lm.lg l j : Nat)))

set_option maxRecDepth 100000 in
theorem By.below {w w' : World} {A : Option Addr} {n c : Nat} {l : List Nat} (h : By w A n c l) (hb : Below w.heap.size w w') : By w' A n c l := by
  refine ⟨h.1, h.2.1, h.2.2.1, fun hn => ?_⟩
  obtain ⟨b, o, e, hlt, hc⟩ := h.2.2.2 hn
  exact ⟨b, o, e, Nat.lt_of_lt_of_le hlt hb.size, fun j hj => (hb.cell (p := ⟨b, o + j, none⟩) hlt).trans (hc j hj)⟩
set_option maxRecDepth 100000 in
theorem By.alloc {w : World} {A : Option Addr} {n c : Nat} {l : List Nat} (h : By w A n c l) (o : Obj) : By (w.alloc o) A n c l :=
  h.below ((Below.refl _ _).alloc (Nat.le_refl _) o)
set_option maxRecDepth 100000 in
theorem By.nil (w : World) (A : Option Addr) (c : Nat) : By w A 0 c [] := ⟨rfl, Nat.zero_le _, Wr.small_nil, fun h => absurd h (by omega)⟩
set_option maxRecDepth 100000 in
theorem By.take {w : World} {A : Option Addr} {n c : Nat} {l : List Nat} (h : By w A n c l) (k : Nat) (hk : k ≤ n) : By w A k c (l.take k) := by
  refine ⟨by rw [List.length_take, h.1]; omega, Nat.le_trans hk h.2.1, Wr.small_take h.2.2.1 k, fun hn => ?_⟩
  obtain ⟨b, o, e, hlt, hc⟩ := h.2.2.2 (by omega)
  refine ⟨b, o, e, hlt, fun j hj => ?_⟩
  rw [hc j (by omega), Lm.lg_take hj]

set_option maxRecDepth 100000 in
theorem By.drewN {w : World} {A : Option Addr} {n c : Nat} {l : List Nat} (h : By w A n c l) (q : Nat) : By (w.drewN q) A n c l := h
set_option maxRecDepth 100000 in
theorem und_bytes : Try.prog.underlying 31 = some (.slice 5) := by kernel_rfl
set_option maxRecDepth 100000 in
theorem info_byte : (Try.prog.info? 5).map (fun i => (i.zero, i.size, i.bytes)) = some (some (.int .u8 0), 1, 1) := by kernel_rfl
set_option maxRecDepth 100000 in
theorem info_byte' : ∃ i, Try.prog.info? 5 = some i ∧ i.zero = some (.int .u8 0) ∧ i.size = 1 ∧ i.bytes = 1 := by
  have h := info_byte
  cases hi : Try.prog.info? 5 with
  | none => rw [hi] at h; simp at h
  | some i => rw [hi] at h; simp at h; exact ⟨i, rfl, h.1, h.2.1, h.2.2⟩

/-- Bytes as cells. -/
def brr (t : List Nat) : Array Value := (t.map fun x : Nat => Value.int .u8 (x : Int)).toArray
set_option maxRecDepth 100000 in
theorem brr_size (t : List Nat) : (brr t).size = t.length := by simp [brr]
set_option maxRecDepth 100000 in
theorem brr_get {t : List Nat} {i : Nat} (h : i < t.length) : (brr t)[i]? = some (.int .u8 (Lm.lg t i : Nat)) := by
  simp [brr, Lm.lg, h]
set_option maxRecDepth 100000 in
theorem brr_set (t : List Nat) (i x : Nat) : (brr t).setIfInBounds i (.int .u8 (x : Int)) = brr (t.set i x) := by
  simp [brr, List.map_set]
set_option maxRecDepth 100000 in
theorem brr_made (n : Nat) : madeCells (Value.int .u8 0).cells (n * 1) = brr (List.replicate n 0) := by
  apply Array.ext
  · simp [size_madeCells, brr]
  · intro i h1 h2
    simp [madeCells, brr, Value.cells, Nat.mod_one]

set_option maxRecDepth 100000 in
/-- A new row of limbs. -/
theorem By.new (w : World) (t : List Nat) (hs : Wr.Small t) : By (w.alloc (.cells (brr t) 5)) (some ⟨w.heap.size, 0, none⟩) t.length t.length t := by
  refine ⟨rfl, Nat.le_refl _, hs, fun _ => ⟨w.heap.size, 0, rfl, by simp, fun j hj => ?_⟩⟩
  rw [World.cell?_alloc_at _ _ _ _ rfl, Nat.zero_add, brr_get hj]

def byVs (l : List Nat) : List Value := l.map fun x : Nat => Value.int .u8 (x : Int)
set_option maxRecDepth 100000 in
theorem byVs_len (l : List Nat) : (byVs l).length = l.length := by simp [byVs]
set_option maxRecDepth 100000 in
theorem byVs_take (l : List Nat) (k : Nat) : byVs (l.take k) = (byVs l).take k := by simp [byVs, List.map_take]
set_option maxRecDepth 100000 in
theorem byVs_get {l : List Nat} {j : Nat} (h : j < l.length) : (byVs l)[j]? = some (.int .u8 (Lm.lg l j : Nat)) := by simp [byVs, Lm.lg, h]
set_option maxRecDepth 100000 in
theorem brr_toList (t : List Nat) : (brr t).toList = byVs t := by simp [brr, byVs]

/-- The slice 'A, n, c' is a row of the call's own, from block 'base' on, with the limbs l. -/
def Bo (w : World) (base : Nat) (A : Option Addr) (n c : Nat) (l : List Nat) : Prop :=
  Wr.Small l ∧ l.length = n ∧ w.ownsRow base 5 1 (.slice A n c) n (byVs l)

section
variable {w w' : World} {base n c : Nat} {A : Option Addr} {l : List Nat}

set_option maxRecDepth 100000 in
theorem Bo.nil (w : World) (base : Nat) : Bo w base none 0 0 [] := ⟨Wr.small_nil, rfl, World.ownsRow_nil _ _ _ _⟩

set_option maxRecDepth 100000 in
theorem Bo.cap (h : Bo w base A n c l) : n ≤ c ∧ c ≤ maxLen := by
  rcases h.2.2.2 with ⟨hv, hn⟩ | ⟨g, cap, cur, hv, _, _, h1, h2, _⟩
  · injection hv with _ _ hc
    subst hc
    exact ⟨by omega, Nat.zero_le _⟩
  · injection hv with _ _ hc
    subst hc
    exact ⟨h1, h2⟩

set_option maxRecDepth 100000 in
theorem Bo.by (h : Bo w base A n c l) : By w A n c l := by
  refine ⟨h.2.1, h.cap.1, h.1, fun hn => ?_⟩
  rcases h.2.2.2 with ⟨_, h0⟩ | ⟨g, cap, cur, hv, hb, hg, h1, h2, h3, h4⟩
  · omega
  · injection hv with hA _ hc
    subst hA hc
    refine ⟨g, 0, rfl, (Array.getElem?_eq_some_iff.1 hg).1, fun j hj => ?_⟩
    rw [Nat.zero_add, World.ownsRow.cellAt h.2.2 j (by omega), byVs_get (by rw [h.2.1]; exact hj)]

set_option maxRecDepth 100000 in
theorem Bo.below (h : Bo w base A n c l) (hb : Below w.heap.size w w') : Bo w' base A n c l := by
  refine ⟨h.1, h.2.1, h.2.2.1, ?_⟩
  rcases h.2.2.2 with h0 | ⟨g, cap, cur, hv, hbg, hg, rest⟩
  · exact .inl h0
  · exact .inr ⟨g, cap, cur, hv, hbg, (hb.block g (Array.getElem?_eq_some_iff.1 hg).1).trans hg, rest⟩

set_option maxRecDepth 100000 in
theorem Bo.mono {base' : Nat} (h : Bo w base A n c l) (hb : base' ≤ base) : Bo w base' A n c l := by
  refine ⟨h.1, h.2.1, h.2.2.1, ?_⟩
  rcases h.2.2.2 with h0 | ⟨g, cap, cur, hv, hbg, rest⟩
  · exact .inl h0
  · exact .inr ⟨g, cap, cur, hv, Nat.le_trans hb hbg, rest⟩

set_option maxRecDepth 100000 in
theorem Bo.take (h : Bo w base A n c l) (k : Nat) (hk : k ≤ n) : Bo w base A k c (l.take k) := by
  refine ⟨Wr.small_take h.1 k, by rw [List.length_take, h.2.1]; omega, by rw [byVs_len, List.length_take, h.2.1]; omega, ?_⟩
  rcases h.2.2.2 with ⟨hv, h0⟩ | ⟨g, cap, cur, hv, hbg, hg, h1, h2, h3, h4⟩
  · injection hv with hA _ hc
    subst hA hc
    have : k = 0 := by omega
    subst this
    exact .inl ⟨rfl, rfl⟩
  · injection hv with hA _ hc
    subst hA hc
    refine .inr ⟨g, _, cur, rfl, hbg, hg, by omega, h2, h3, ?_⟩
    rw [byVs_take, ← h4, List.take_take]
    congr 1
    omega

set_option maxRecDepth 100000 in
theorem Bo.new (w : World) (base : Nat) (t : List Nat) (hs : Wr.Small t) (hb : base ≤ w.heap.size) (hl : t.length ≤ maxLen) :
    Bo (w.alloc (.cells (brr t) 5)) base (some ⟨w.heap.size, 0, none⟩) t.length t.length t := by
  refine ⟨hs, rfl, ?_⟩
  have := World.ownsRow_lit (e := 5) (size := 1) w (brr t) t.length hb hl (by rw [brr_size]; omega)
  rw [brr_toList] at this
  exact this
end

def Rby (w : World) (A : Option Addr) (n c : Nat) (l : List Nat) : Prop := By w A n c l ∧ c ≤ maxLen
set_option maxRecDepth 100000 in
theorem Rby.below {w w' : World} {A : Option Addr} {n c : Nat} {l : List Nat} (h : Rby w A n c l) (hb : Below w.heap.size w w') : Rby w' A n c l := ⟨h.1.below hb, h.2⟩
set_option maxRecDepth 100000 in
/-- append(row, limbs...), the limbs nil, empty or not. -/
theorem append_by (w : World) (base : Nat) (A0 : Option Addr) (n0 c0 : Nat) (l0 : List Nat) (hown : Bo w base A0 n0 c0 l0) (A : Option Addr) (n c : Nat) (l : List Nat) (h : By w A n c l) (hn : n0 + n ≤ 10000000) (hbase : base ≤ w.heap.size) (ty : TypeId) :
    ∃ A' c' w', (Builtin.append_ #[31, 31] ty #[.slice A0 n0 c0, .slice A n c]).run Try.prog w = .ok (.slice A' (n0 + n) c') w' ∧ Bo w' base A' (n0 + n) c' (l0 ++ l) ∧ Below base w w' := by
  obtain ⟨i, hi, hz, hs, hb⟩ := info_byte'
  cases A with
  | none =>
    have h0 : n = 0 := by
      rcases Nat.eq_zero_or_pos n with h0 | h0
      · exact h0
      · obtain ⟨b, o, e, _⟩ := h.2.2.2 h0
        cases e
    subst h0
    have hl : l = [] := List.eq_nil_of_length_eq_zero h.1
    subst hl
    refine ⟨A0, c0, w, ?_, by simpa using hown, Below.refl _ _⟩
    rcases hown.2.2.2 with ⟨hv, h0⟩ | ⟨g, cap, cur, hv, _, _, hnc, _⟩
    · injection hv with hA _ hc
      subst hA hc h0
      simp [Builtin.append_, run_underlying und_bytes, sizeOf, typeInfo, hi, Builtin.lenOf, Builtin.firstCells]
    · injection hv with hA _ hc
      subst hA hc
      simp [Builtin.append_, run_underlying und_bytes, sizeOf, typeInfo, hi, Builtin.lenOf, Builtin.firstCells, hnc, storeCells]
  | some ad =>
    have hcells : ∀ j u, (byVs l)[j]? = some u → w.cell? (ad.add j) = some u := by
      intro j u hu
      have hj : j < l.length := by
        rcases Nat.lt_or_ge j l.length with hj | hj
        · exact hj
        · rw [List.getElem?_eq_none (by rw [byVs_len]; exact hj)] at hu; cases hu
      obtain ⟨b, o, e, _, hc⟩ := h.2.2.2 (by have := h.1; omega)
      injection e with e
      subst e
      rw [byVs_get hj] at hu
      injection hu with hu
      subst hu
      have hadd : (⟨b, o, none⟩ : Addr).add j = ⟨b, o + j, none⟩ := by unfold Addr.add; split <;> simp_all
      rw [hadd]
      exact hc j (by have := h.1; omega)
    have h1 : ∀ u ∈ byVs l, u.oneCell' = true := by
      intro u hu
      simp only [byVs, List.mem_map] at hu
      obtain ⟨x, _, rfl⟩ := hu
      rfl
    obtain ⟨v', w', hrun, ho, hg, _⟩ := run_append_own (P := Try.prog) w base 31 ty 5 i (.int .u8 0) 1 1 und_bytes hi hz hs hb rfl (by decide) (.slice A0 n0 c0) n0 (byVs l0) hown.2.2 ad n c (byVs l) (by rw [byVs_len, h.1]; omega) hcells h1 (by unfold maxLen; omega) (by omega) hbase
    have hlen : l0.length = n0 := hown.2.1
    have hform : ∃ A' c', v' = .slice A' (n0 + n) c' := by
      rcases ho.2 with ⟨rfl, h0⟩ | ⟨g, cap, cur, rfl, _⟩
      · exact ⟨none, 0, by rw [h0]⟩
      · exact ⟨_, _, rfl⟩
    obtain ⟨A', c', rfl⟩ := hform
    have happ : byVs l0 ++ byVs l = byVs (l0 ++ l) := by simp [byVs]
    rw [happ] at ho
    refine ⟨A', c', w', hrun, ⟨Wr.small_append.2 ⟨hown.1, h.2.2.1⟩, by rw [List.length_append, hlen, h.1], ho⟩, ?_⟩
    refine (Below.refl base w).grown hg hbase (fun k hk => ?_)
    exact (World.ownsRow.lt hown.2.2 k hk).1

set_option maxRecDepth 100000 in
set_option maxHeartbeats 800000 in
theorem sameBytes_any (w : World) (A B : Option Addr) (n c m d : Nat) (l k : List Nat) (h : By w A n c l) (hn : c ≤ maxLen) (h' : By w B m d k) (_hm : d ≤ maxLen) :
    Calls Try.prog 11 #[.slice A n c, .slice B m d] w fun e w' => e = .returned (.bool (decide (l = k))) ∧ ∃ q, w' = w.drewN q := by
  unfold maxLen at hn _hm
  have hnc := h.2.1
  have hmd := h'.2.1
  have hll := Lib.hid h.1
  have hkk := Lib.hid h'.1
  by_cases hnm : n = m
  · subst hnm
    go_enter Try.func11, Try.ntmps11
    go_wp2
    go_loopw [5] (fun i w' => ∃ j : Nat, j ≤ n ∧ i = .int .i64 (j : Int) ∧ (∃ q, w' = w.drewN q) ∧ Hid (∀ t, t < j → Lm.lg l t = Lm.lg k t)) (fun i _ => n - (intOf i).toNat)
    case atStart => exact ⟨0, Nat.zero_le _, rfl, ⟨0, rfl⟩, fun t h1 => by omega⟩
    case round =>
      obtain ⟨j, hj, rfl, ⟨q, rfl⟩, hz⟩ := hrel
      by_cases h0 : j < n
      · obtain ⟨b, o, rfl, hlt, hcell⟩ := h.2.2.2 (by omega)
        obtain ⟨b', o', rfl, hlt', hcell'⟩ := h'.2.2.2 (by omega)
        have hg := hcell j h0
        have hg' := hcell' j h0
        have hpos2 : (j : Int) < (n : Int) := by omega
        clear hcell hcell'
        by_cases hx : Lm.lg l j = Lm.lg k j
        · rw [← hx] at hg'
          have hX := Lib.hid hx
          clear hx
          go_wp2
          go_quiet (fail)
          go_wp2
          go_roundw
          case rel => exact ⟨j + 1, by omega, by go_num, ⟨_, rfl⟩, fun t h1 => by
            by_cases e : t = j
            · rw [e]; exact hX.out
            · exact hz.out t (by omega)⟩
          case measure => simp [intOf]; omega
        · have hne : ((((Lm.lg l j : Nat) : Int) != ((Lm.lg k j : Nat) : Int))) = true := by rw [bne_iff_ne]; omega
          have fin := Lib.hid (show decide (l = k) = false by rw [decide_eq_false_iff_not]; rintro rfl; exact hx rfl)
          go_wp2
          go_quiet (fail)
          go_wp2
          go_ret
          rw [fin.out]
          exact ⟨rfl, _, by rw [World.drewN_drewN]⟩
      · have e := Lm.eq_of_lg (hll.out.trans hkk.out.symm) (fun t ht => hz.out t (by have := hll.out; omega))
        have fin := Lib.hid (show decide (l = k) = true by rw [decide_eq_true_iff]; exact e)
        clear e
        go_wp2
        go_ret
        rw [fin.out]
        exact ⟨rfl, q, rfl⟩
  · have hne : (((n : Nat) : Int) != ((m : Nat) : Int)) = true := by rw [bne_iff_ne]; omega
    have fin := Lib.hid (show decide (l = k) = false by rw [decide_eq_false_iff_not]; rintro rfl; exact hnm (by rw [← hll.out, ← hkk.out]))
    go_enter Try.func11, Try.ntmps11
    go_wp2
    go_ret
    rw [fin.out]
    exact ⟨rfl, 0, rfl⟩
end Go.Proofs.Ytomohdfcggghoaa

namespace Go.Proofs.Ytomohdfcggghoaa
open Go.RowKit

/-- What putting bytes behind a row changes: that row, and new blocks. -/
structure Gr (w w' : World) (A A' : Option Addr) : Prop where
  g : w.grownBy w' (A.map (·.block))
  loc : A'.map (·.block) = A.map (·.block) ∨ ∃ k, A'.map (·.block) = some k ∧ w.heap.size ≤ k
/-- The row does not lie in that block. -/
def Av (A : Option Addr) (b : Nat) : Prop := A.map (·.block) ≠ some b
set_option maxRecDepth 100000 in
theorem own_map (A : Option Addr) (n c : Nat) : (Value.slice A n c).ownBlock = A.map (·.block) := by cases A <;> rfl
set_option maxRecDepth 100000 in
theorem Gr.refl (w : World) (A : Option Addr) : Gr w w A A := ⟨World.grownBy.refl _ _, .inl rfl⟩
set_option maxRecDepth 100000 in
theorem Gr.alloc {w w' : World} {A A' : Option Addr} (h : Gr w w' A A') (o : Obj) : Gr w (w'.alloc o) A A' := ⟨grown_tr h.g (World.grownBy_alloc w' o _), h.loc⟩
set_option maxRecDepth 100000 in
theorem Gr.trans {a b c : World} {A A' A'' : Option Addr} (h : Gr a b A A') (k : Gr b c A' A'') : Gr a c A A'' := by
  refine ⟨⟨k.g.os.trans h.g.os, k.g.tape.trans h.g.tape, k.g.output.trans h.g.output, Nat.le_trans h.g.size k.g.size, fun i hi hne => ?_⟩, ?_⟩
  · refine (k.g.block i (Nat.lt_of_lt_of_le hi h.g.size) ?_).trans (h.g.block i hi hne)
    rcases h.loc with e | ⟨j, e, hj⟩
    · rw [e]; exact hne
    · rw [e]; intro e'; cases e'; omega
  · rcases k.loc with e | ⟨j, e, hj⟩
    · rw [e]; exact h.loc
    · exact .inr ⟨j, e, Nat.le_trans h.g.size hj⟩
set_option maxRecDepth 100000 in
theorem Gr.box {w w' : World} {A A' : Option Addr} (h : Gr w w' A A') {b : Nat} (hb : b < w.heap.size) (ha : Av A b) : w'.heap[b]? = w.heap[b]? := h.g.block b hb (fun e => ha e.symm)
set_option maxRecDepth 100000 in
theorem Gr.av {w w' : World} {A A' : Option Addr} (h : Gr w w' A A') {b : Nat} (hb : b < w.heap.size) (ha : Av A b) : Av A' b := by
  intro e
  rcases h.loc with e' | ⟨j, e', hj⟩
  · rw [e'] at e; exact ha e
  · rw [e'] at e; cases e; omega
set_option maxRecDepth 100000 in
theorem Bo.av {w : World} {base n c : Nat} {A : Option Addr} {l : List Nat} (h : Bo w base A n c l) {b : Nat} (hb : w.heap.size ≤ b) : Av A b := by
  intro e
  have := (World.ownsRow.lt h.2.2 b (by rw [own_map]; exact e)).2
  omega
set_option maxRecDepth 100000 in
theorem Gr.below {w w' : World} {A A' : Option Addr} (h : Gr w w' A A') {base n c : Nat} {l : List Nat} (hB : Bo w base A n c l) (hb : base ≤ w.heap.size) : Below base w w' :=
  (Below.refl base w).grown h.g hb (fun k hk => (World.ownsRow.lt hB.2.2 k (by rw [own_map]; exact hk)).1)

/-- What a call leaves that puts bytes behind a row. -/
def LdP (w : World) (base : Nat) (A : Option Addr) (n : Nat) (l l' : List Nat) (e : Ending) (w' : World) : Prop :=
  ∃ A' c', e = .returned (.slice A' (n + l'.length) c') ∧ Bo w' base A' (n + l'.length) c' (l ++ l') ∧ Gr w w' A A'

set_option maxRecDepth 100000 in
/-- append(row, bytes...). -/
theorem Bo.app {w : World} {base : Nat} {A0 : Option Addr} {n0 c0 : Nat} {l0 : List Nat} (hown : Bo w base A0 n0 c0 l0) (A : Option Addr) (n c : Nat) (l : List Nat) (h : By w A n c l) (hn : n0 + n ≤ 10000000) (hbase : base ≤ w.heap.size) (ty : TypeId) :
    ∃ A' c' w', (Builtin.append_ #[31, 31] ty #[.slice A0 n0 c0, .slice A n c]).run Try.prog w = .ok (.slice A' (n0 + n) c') w' ∧ Bo w' base A' (n0 + n) c' (l0 ++ l) ∧ Gr w w' A0 A' := by
  obtain ⟨i, hi, hz, hs, hb⟩ := info_byte'
  cases A with
  | none =>
    have h0 : n = 0 := by
      rcases Nat.eq_zero_or_pos n with h0 | h0
      · exact h0
      · obtain ⟨b, o, e, _⟩ := h.2.2.2 h0
        cases e
    subst h0
    have hl : l = [] := List.eq_nil_of_length_eq_zero h.1
    subst hl
    refine ⟨A0, c0, w, ?_, by simpa using hown, Gr.refl _ _⟩
    rcases hown.2.2.2 with ⟨hv, h0⟩ | ⟨g, cap, cur, hv, _, _, hnc, _⟩
    · injection hv with hA _ hc
      subst hA hc h0
      simp [Builtin.append_, run_underlying und_bytes, sizeOf, typeInfo, hi, Builtin.lenOf, Builtin.firstCells]
    · injection hv with hA _ hc
      subst hA hc
      simp [Builtin.append_, run_underlying und_bytes, sizeOf, typeInfo, hi, Builtin.lenOf, Builtin.firstCells, hnc, storeCells]
  | some ad =>
    have hcells : ∀ j u, (byVs l)[j]? = some u → w.cell? (ad.add j) = some u := by
      intro j u hu
      have hj : j < l.length := by
        rcases Nat.lt_or_ge j l.length with hj | hj
        · exact hj
        · rw [List.getElem?_eq_none (by rw [byVs_len]; exact hj)] at hu; cases hu
      obtain ⟨b, o, e, _, hc⟩ := h.2.2.2 (by have := h.1; omega)
      injection e with e
      subst e
      rw [byVs_get hj] at hu
      injection hu with hu
      subst hu
      rw [add_none]
      exact hc j (by have := h.1; omega)
    have h1 : ∀ u ∈ byVs l, u.oneCell' = true := by
      intro u hu
      simp only [byVs, List.mem_map] at hu
      obtain ⟨x, _, rfl⟩ := hu
      rfl
    obtain ⟨v', w', hrun, ho, hg, _, hloc⟩ := run_append_own_at (P := Try.prog) w base 31 ty 5 i (.int .u8 0) 1 1 und_bytes hi hz hs hb rfl (by decide) (.slice A0 n0 c0) n0 (byVs l0) hown.2.2 ad n c (byVs l) (by rw [byVs_len, h.1]; omega) hcells h1 (by unfold maxLen; omega) (by omega) hbase
    have hlen : l0.length = n0 := hown.2.1
    have hform : ∃ A' c', v' = .slice A' (n0 + n) c' := by
      rcases ho.2 with ⟨rfl, h0⟩ | ⟨g, cap, cur, rfl, _⟩
      · exact ⟨none, 0, by rw [h0]⟩
      · exact ⟨_, _, rfl⟩
    obtain ⟨A', c', rfl⟩ := hform
    have happ : byVs l0 ++ byVs l = byVs (l0 ++ l) := by simp [byVs]
    rw [happ] at ho
    rw [own_map] at hg
    rw [own_map, own_map] at hloc
    refine ⟨A', c', w', hrun, ⟨Wr.small_append.2 ⟨hown.1, h.2.2.1⟩, by rw [List.length_append, hlen, h.1], ho⟩, hg, ?_⟩
    rcases hloc with e | e
    · exact .inl e
    · exact .inr ⟨_, e, Nat.le_refl _⟩
set_option maxRecDepth 100000 in
/-- Bytes that are written out are put behind a row. -/
theorem Bo.puts {w : World} {base n c : Nat} {A : Option Addr} {l : List Nat} (h : Bo w base A n c l) (hbase : base ≤ w.heap.size) (xs : List Nat) (hx : Wr.Small xs) (hn : n + xs.length ≤ 9000000) (cs : Array Value) (hcs : cs = brr xs) (k : Nat) (hk : k = xs.length) :
    ∃ A' c' w', (Builtin.append_ #[31, 31] 31 #[.slice A n c, .slice (some ⟨w.heap.size, 0, none⟩) k k]).run Try.prog (w.alloc (.cells cs 5)) = .ok (.slice A' (n + k) c') w' ∧ Bo w' base A' (n + k) c' (l ++ xs) ∧ Gr w w' A A' := by
  subst hcs hk
  have hb := (Below.refl w.heap.size w).alloc (Nat.le_refl _) (.cells (brr xs) 5)
  obtain ⟨A', c', w', h1, h2, h3⟩ := (h.below hb).app (some ⟨w.heap.size, 0, none⟩) xs.length xs.length xs (By.new w xs hx) (by omega) (by simp; omega) 31
  exact ⟨A', c', w', h1, h2, ((Gr.refl w A).alloc _).trans h3⟩
set_option maxRecDepth 100000 in
/-- A text is put behind a row. -/
theorem Bo.text {w : World} {base n c : Nat} {A : Option Addr} {l : List Nat} (h : Bo w base A n c l) (hbase : base ≤ w.heap.size) (s : ByteArray) (hn : n + s.size ≤ 9000000) :
    ∃ A' c' w', (Builtin.append_ #[31, 9] 31 #[.slice A n c, .string s]).run Try.prog w = .ok (.slice A' (n + s.size) c') w' ∧ Bo w' base A' (n + s.size) c' (l ++ Wr.txt s) ∧ Gr w w' A A' := by
  obtain ⟨i, hi, hz, hs, hb⟩ := info_byte'
  have und : Try.prog.underlying 9 = some .string := by kernel_rfl
  obtain ⟨v', w', hrun, ho, hg, hnil⟩ := Go.Lib.run_append_own_string (P := Try.prog) w base 31 9 31 5 i und_bytes und hi hz hs hb (.slice A n c) n (byVs l) h.2.2 s (by unfold maxLen; omega) (by omega) hbase
  have hform : ∃ A' c', v' = .slice A' (n + s.size) c' := by
    rcases ho.2 with ⟨rfl, h0⟩ | ⟨g, cap, cur, rfl, _⟩
    · exact ⟨none, 0, by rw [h0]⟩
    · exact ⟨_, _, rfl⟩
  obtain ⟨A', c', rfl⟩ := hform
  have happ : byVs l ++ Go.Lib.strCells s = byVs (l ++ Wr.txt s) := by simp [byVs, Go.Lib.strCells, Wr.txt]
  rw [happ] at ho
  rw [own_map] at hg
  refine ⟨A', c', w', hrun, ⟨Wr.small_append.2 ⟨h.1, Wr.txt_small s⟩, by rw [List.length_append, h.2.1, Wr.txt_len], ho⟩, hg, ?_⟩
  rcases h.2.2.2 with ⟨hv, h0⟩ | ⟨g, cap, cur, hv, _, hgc, hnc, _, hsz, htk⟩
  · injection hv with hA _ hc
    subst hA hc h0
    by_cases hs0 : s.size = 0
    · have := hnil.2 ⟨rfl, hs0⟩
      injection this with e _ _
      exact .inl (by rw [e])
    · have hr := run_append_nil_string (P := Try.prog) w 31 9 31 5 i _ und_bytes und hi hz s (by omega) (by omega) (by rw [hb]; omega)
      rw [hrun] at hr
      injection hr with e _
      injection e with e _ _
      exact .inr ⟨_, by rw [e]; rfl, Nat.le_refl _⟩
  · injection hv with hA _ hc
    subst hA hc
    by_cases hroom : n + s.size ≤ c
    · have hr := Go.Lib.run_append_room_string (P := Try.prog) w 31 9 31 5 i und_bytes und hi hs g n c cur hgc s hroom (by omega)
      rw [hrun] at hr
      injection hr with e _
      injection e with e _ _
      exact .inl (by rw [e])
    · have hr := Go.Lib.run_append_grow_string (P := Try.prog) w 31 9 31 5 i _ und_bytes und hi hz ⟨g, 0, none⟩ n c (byVs l) (by rw [byVs_len, h.2.1, hs]; omega) (h.2.2.cells (g := g) rfl) s (by omega) (by omega) (by rw [hb]; exact growslice_fits (by omega) (by omega))
      rw [hrun] at hr
      injection hr with e _
      injection e with e _ _
      exact .inr ⟨_, by rw [e]; rfl, Nat.le_refl _⟩
set_option maxRecDepth 100000 in
theorem wpList_append_run2 {P : Program} {w w' : World} {ops : Array Oper} {rest : List Oper} {o : Oper} {a : Act} {Q : Exit → Act → World → Prop} (hgd : o.guard = none) (s x : Operand) (t u : TypeId)
    (ho : o.op = .call { callee := .builtin .append, args := #[s, x], argTypes := #[t, u] }) (v y v' : Value) (hs : a.eval s = v) (hx : a.eval x = y)
    (hrun : (Builtin.append_ #[t, u] o.type #[v, y]).run P w = .ok v' w') (h : wpList P ops Q rest (a.put o.dst v') w') : wpList P ops Q (o :: rest) a w := by
  refine wpList_plain hgd fun K hK' => ?_
  unfold Oper.wp
  simp [execOp, ho, resolve, invoke, builtin, hs, hx, hrun, Result.andThen]
  exact hK' _ _ h

set_option maxRecDepth 100000 in
theorem byte_shr (z k : Nat) : ((z / 256 ^ k % 256 : Nat) : Int) = (z : Int) / 2 ^ (8 * k) % 256 := by
  have e : (2 : Int) ^ (8 * k) = ((256 ^ k : Nat) : Int) := by rw [Int.pow_mul]; simp
  rw [e]
  simp

set_option maxRecDepth 100000 in
set_option maxHeartbeats 1000000 in
theorem laidNumber_any (w : World) (base : Nat) (A : Option Addr) (n c : Nat) (l : List Nat) (h : Bo w base A n c l) (hbase : base ≤ w.heap.size) (z m : Nat) (hm : m ≤ 8) (hn : n ≤ 8000000) :
    Calls Try.prog 33 #[.slice A n c, .int .u64 (z : Int), .int .i64 (m : Int)] w (LdP w base A n l (Wr.bes z m)) := by
  go_enter Try.func33, Try.ntmps33
  go_wp2_with fail
  go_loopw [0, 7] (fun b i w' => ∃ (k n' c' : Nat) (A' : Option Addr) (cu : List Nat), k ≤ m ∧ n' = n + (m - k) ∧ i = .int .i64 ((k : Int) - 1) ∧ b = .slice A' n' c' ∧ Bo w' base A' n' c' cu ∧ Hid (cu ++ Wr.bes z k = l ++ Wr.bes z m) ∧ Gr w w' A A') (fun _ i _ => (intOf i + 1).toNat)
  case atStart => exact ⟨m, n, c, A, l, Nat.le_refl _, by omega, by go_num, rfl, h, rfl, Gr.refl _ _⟩
  case round =>
    obtain ⟨k, n', c', A', cu, hk, hn', rfl, rfl, hB, hcu, hb⟩ := hrel
    have HN := Lib.hid hn'
    clear hn'
    rcases k with _ | k
    · go_wp2_with fail
      go_ret
      have e := HN.out
      have e2 := hcu.out
      rw [Wr.bes, List.append_nil] at e2
      subst e2
      refine ⟨A', c', ?_, ?_, hb⟩
      · rw [Wr.bes_len, e]; rfl
      · rw [Wr.bes_len]; rw [e] at hB; exact hB
    · have e0 : ((k + 1 : Nat) : Int) - 1 = (k : Int) := by omega
      rw [e0]
      have hle : base ≤ wr.heap.size := Nat.le_trans hbase hb.g.size
      obtain ⟨A2, c2, w2, hrun, hB2, hb2⟩ := hB.puts hle [z / 256 ^ k % 256] (by intro y hy; simp at hy; omega) (by have := HN.out; simp; omega) #[.int .u8 ((z : Int) / 2 ^ (8 * k) % 256)] (by rw [← byte_shr]; rfl) 1 rfl
      have HR := Lib.hid hrun
      have HB := Lib.hid (hb.trans hb2)
      have HC := Lib.hid (show cu ++ [z / 256 ^ k % 256] ++ Wr.bes z k = l ++ Wr.bes z m by rw [← hcu.out, List.append_assoc]; rfl)
      clear hrun hB hcu hb hb2
      go_wp2_with (at_builtin; refine wpList_append_run rfl _ _ _ rfl _ _ _ rfl rfl HR.out ?_)
      exact ⟨⟨k, n' + 1, c2, A2, _, by omega, by have := HN.out; omega, by go_num, rfl, hB2, HC, HB.out⟩, by simp [intOf]⟩
set_option maxRecDepth 100000 in
/-- The same, with the numbers as they stand in a call. -/
theorem laidNumber_at (w : World) (base : Nat) (A : Option Addr) (n c : Nat) (l : List Nat) (h : Bo w base A n c l) (hbase : base ≤ w.heap.size) (hn : n ≤ 8000000) (Z M : Int) (z m : Nat) (hZ : Z = (z : Int)) (hM : M = (m : Int)) (hm : m ≤ 8) :
    Calls Try.prog 33 #[.slice A n c, .int .u64 Z, .int .i64 M] w (LdP w base A n l (Wr.bes z m)) := by
  subst hZ hM
  exact laidNumber_any w base A n c l h hbase z m hm hn
set_option maxRecDepth 100000 in
set_option maxHeartbeats 1000000 in
theorem refNum7_any (w : World) (base : Nat) (A : Option Addr) (n c : Nat) (l : List Nat) (h : Bo w base A n c l) (hbase : base ≤ w.heap.size) (z m : Nat) (hm : m ≤ 8) (hn : n ≤ 8000000) :
    Calls Try.prog 37 #[.slice A n c, .int .u64 (z : Int), .int .i64 (m : Int)] w (LdP w base A n l (Wr.bes z m)) := by
  go_enter Try.func37, Try.ntmps37
  go_wp2_with fail
  go_loopw [0, 7] (fun b i w' => ∃ (k n' c' : Nat) (A' : Option Addr) (cu : List Nat), k ≤ m ∧ n' = n + (m - k) ∧ i = .int .i64 ((k : Int) - 1) ∧ b = .slice A' n' c' ∧ Bo w' base A' n' c' cu ∧ Hid (cu ++ Wr.bes z k = l ++ Wr.bes z m) ∧ Gr w w' A A') (fun _ i _ => (intOf i + 1).toNat)
  case atStart => exact ⟨m, n, c, A, l, Nat.le_refl _, by omega, by go_num, rfl, h, rfl, Gr.refl _ _⟩
  case round =>
    obtain ⟨k, n', c', A', cu, hk, hn', rfl, rfl, hB, hcu, hb⟩ := hrel
    have HN := Lib.hid hn'
    clear hn'
    rcases k with _ | k
    · go_wp2_with fail
      go_ret
      have e := HN.out
      have e2 := hcu.out
      rw [Wr.bes, List.append_nil] at e2
      subst e2
      refine ⟨A', c', ?_, ?_, hb⟩
      · rw [Wr.bes_len, e]; rfl
      · rw [Wr.bes_len]; rw [e] at hB; exact hB
    · have e0 : ((k + 1 : Nat) : Int) - 1 = (k : Int) := by omega
      rw [e0]
      have hle : base ≤ wr.heap.size := Nat.le_trans hbase hb.g.size
      obtain ⟨A2, c2, w2, hrun, hB2, hb2⟩ := hB.puts hle [z / 256 ^ k % 256] (by intro y hy; simp at hy; omega) (by have := HN.out; simp; omega) #[.int .u8 ((z : Int) / 2 ^ (8 * k) % 256)] (by rw [← byte_shr]; rfl) 1 rfl
      have HR := Lib.hid hrun
      have HB := Lib.hid (hb.trans hb2)
      have HC := Lib.hid (show cu ++ [z / 256 ^ k % 256] ++ Wr.bes z k = l ++ Wr.bes z m by rw [← hcu.out, List.append_assoc]; rfl)
      clear hrun hB hcu hb hb2
      go_wp2_with (at_builtin; refine wpList_append_run rfl _ _ _ rfl _ _ _ rfl rfl HR.out ?_)
      exact ⟨⟨k, n' + 1, c2, A2, _, by omega, by have := HN.out; omega, by go_num, rfl, hB2, HC, HB.out⟩, by simp [intOf]⟩
set_option maxRecDepth 100000 in
/-- The same, with the numbers as they stand in a call. -/
theorem refNum7_at (w : World) (base : Nat) (A : Option Addr) (n c : Nat) (l : List Nat) (h : Bo w base A n c l) (hbase : base ≤ w.heap.size) (hn : n ≤ 8000000) (Z M : Int) (z m : Nat) (hZ : Z = (z : Int)) (hM : M = (m : Int)) (hm : m ≤ 8) :
    Calls Try.prog 37 #[.slice A n c, .int .u64 Z, .int .i64 M] w (LdP w base A n l (Wr.bes z m)) := by
  subst hZ hM
  exact refNum7_any w base A n c l h hbase z m hm hn
end Go.Proofs.Ytomohdfcggghoaa

namespace Go.Proofs.Ytomohdfcggghoaa
open Go.RowKit

set_option maxRecDepth 100000 in
theorem limbs_take {l : List Nat} {j : Nat} (h : j < l.length) : Wr.limbs (l.take (j + 1)) = Wr.limbs (l.take j) ++ Wr.bes (Lm.lg l j) 4 := by
  rw [List.take_add_one, List.getElem?_eq_getElem h, Option.toList_some, Wr.limbs_snoc]
  congr 2
  simp [Lm.lg, h]

set_option maxRecDepth 100000 in
set_option maxHeartbeats 1000000 in
theorem laidInteger_one (w w0 : World) (A : Option Addr) (n c : Nat) (l : List Nat) (h : Bo w w0.heap.size A n c l) (hb0 : Below w0.heap.size w0 w) (M : Option Addr) (ln lc : Nat) (mags : List Nat) (hl : Lim w0 M ln lc mags) (hln : ln ≤ 300) (hn : n ≤ 7000000) :
    Calls Try.prog 34 #[.slice A n c, .agg #[.bool true, .slice M ln lc]] w (LdP w w0.heap.size A n l (1 :: ln % 256 :: Wr.limbs mags)) := by
  have hml := Lib.hid hl.1
  have hlc' := hl.2.1
  have hbase := hb0.size
  obtain ⟨W, hW⟩ : ∃ W, W = w.alloc (.cells #[.bool true, .slice M ln lc] 24) := ⟨_, rfl⟩
  have hwW : Below w.heap.size w W := by rw [hW]; exact (Below.refl w.heap.size w).alloc (Nat.le_refl _) _
  have hsW : W.heap.size = w.heap.size + 1 := by rw [hW]; simp
  have hgW : Gr w W A A := by rw [hW]; exact (Gr.refl w A).alloc _
  have hA := h.below hwW
  obtain ⟨A1, c1, w1, hrun, hB1, hb1⟩ := hA.puts (by omega) [1, ln % 256] (by intro y hy; simp at hy; rcases hy with rfl | rfl <;> omega) (by simp; omega) #[.int .u8 1, .int .u8 ((ln : Int) % 256)] (by simp [brr]) 2 rfl
  have K : w1.heap[w.heap.size]? = some (.cells #[.bool true, .slice M ln lc] 24 (0, 0)) := (hb1.box (by omega) (h.av (Nat.le_refl _))).trans (by rw [hW]; exact heap_alloc_new w _)
  have y1 : w1.cell? ⟨w.heap.size, 1, none⟩ = some (.slice M ln lc) := by rw [cell_of_row w1 w.heap.size 1 _ _ (0, 0) K]; rfl
  have G1 := hgW.trans hb1
  rw [hsW] at hrun
  rw [hW] at hrun
  have HR := Lib.hid hrun
  clear hrun hb1 K hA hwW hgW hsW hW
  go_enter Try.func34, Try.ntmps34
  go_wp2_with (at_builtin; refine wpList_append_run rfl _ _ _ rfl _ _ _ rfl rfl HR.out ?_)
  clear HR y1
  go_loopw [0, 21] (fun b i w' => ∃ (j c' n' : Nat) (A' : Option Addr), j ≤ ln ∧ n' = n + (2 + 4 * j) ∧ i = .int .i64 (j : Int) ∧ b = .slice A' n' c' ∧ Bo w' w0.heap.size A' n' c' (l ++ [1, ln % 256] ++ Wr.limbs (mags.take j)) ∧ Gr w w' A A') (fun _ i _ => ln - (intOf i).toNat)
  case atStart => exact ⟨0, c1, n + 2, A1, Nat.zero_le _, rfl, rfl, rfl, by simpa [Wr.limbs] using hB1, G1⟩
  case round =>
    clear hB1 G1
    obtain ⟨j, c', n', A', hj, hn', rfl, rfl, hB, hG⟩ := hrel
    have HN := Lib.hid hn'
    clear hn'
    have hle : w0.heap.size ≤ wr.heap.size := Nat.le_trans hbase hG.g.size
    by_cases hjl : j < ln
    · have hd1 : decide ((j : Int) < (ln : Int)) = true := by rw [decide_eq_true_iff]; omega
      have hb2 := hb0.trans (Gr.below hG h hbase)
      have hl2 := hl.below hb2
      obtain ⟨b, o, rfl, hlt, hcell⟩ := hl2.2.2.2 (by omega)
      have hg := hcell j hjl
      clear hcell hl2
      have hx32 := Lm.lg_lt hl.2.2.1 j
      have hst := Lib.hid (limbs_take (l := mags) (j := j) (by have := hml.out; omega))
      go_wp2_with fail
      have Q := laidNumber_at wr w0.heap.size A' n' c' _ hB hle (by have := HN.out; omega) (Lm.lg mags j : Nat) 4 (Lm.lg mags j) 4 rfl rfl (by omega)
      (with_reducible refine Q.mono ?_)
      rintro e w2 ⟨A2, c2, rfl, hB2, hG2⟩
      rw [Wr.bes_len] at hB2 ⊢
      have HB2 := Lib.hid hB2
      have HG2 := Lib.hid (hG.trans hG2)
      clear hB hG hG2 hB2 hg
      go_wp2
      exact ⟨⟨j + 1, c2, n' + 4, A2, by omega, by have := HN.out; omega, by go_num, rfl, by rw [hst.out, ← List.append_assoc]; exact HB2.out, HG2.out⟩, by simp [intOf]; omega⟩
    · have hd1 : decide ((j : Int) < (ln : Int)) = false := by rw [decide_eq_false_iff_not]; omega
      have e : j = ln := by omega
      subst e
      go_wp2_with fail
      go_ret
      have e2 : mags.take j = mags := List.take_of_length_le (by have := hml.out; omega)
      rw [e2] at hB
      have e3 := HN.out
      have e4 : n + (1 :: j % 256 :: Wr.limbs mags).length = n' := by simp only [List.length_cons, Wr.limbs_len, hml.out]; omega
      refine ⟨A', c', ?_, ?_, hG⟩
      · rw [e4]; rfl
      · rw [e4]; simpa using hB
set_option maxRecDepth 100000 in
set_option maxHeartbeats 1000000 in
theorem laidInteger_two (w w0 : World) (A : Option Addr) (n c : Nat) (l : List Nat) (h : Bo w w0.heap.size A n c l) (hb0 : Below w0.heap.size w0 w) (M : Option Addr) (ln lc : Nat) (mags : List Nat) (hl : Lim w0 M ln lc mags) (hln : ln ≤ 300) (hn : n ≤ 7000000) :
    Calls Try.prog 34 #[.slice A n c, .agg #[.bool false, .slice M ln lc]] w (LdP w w0.heap.size A n l (0 :: ln % 256 :: Wr.limbs mags)) := by
  have hml := Lib.hid hl.1
  have hlc' := hl.2.1
  have hbase := hb0.size
  obtain ⟨W, hW⟩ : ∃ W, W = w.alloc (.cells #[.bool false, .slice M ln lc] 24) := ⟨_, rfl⟩
  have hwW : Below w.heap.size w W := by rw [hW]; exact (Below.refl w.heap.size w).alloc (Nat.le_refl _) _
  have hsW : W.heap.size = w.heap.size + 1 := by rw [hW]; simp
  have hgW : Gr w W A A := by rw [hW]; exact (Gr.refl w A).alloc _
  have hA := h.below hwW
  obtain ⟨A1, c1, w1, hrun, hB1, hb1⟩ := hA.puts (by omega) [0, ln % 256] (by intro y hy; simp at hy; rcases hy with rfl | rfl <;> omega) (by simp; omega) #[.int .u8 0, .int .u8 ((ln : Int) % 256)] (by simp [brr]) 2 rfl
  have K : w1.heap[w.heap.size]? = some (.cells #[.bool false, .slice M ln lc] 24 (0, 0)) := (hb1.box (by omega) (h.av (Nat.le_refl _))).trans (by rw [hW]; exact heap_alloc_new w _)
  have y1 : w1.cell? ⟨w.heap.size, 1, none⟩ = some (.slice M ln lc) := by rw [cell_of_row w1 w.heap.size 1 _ _ (0, 0) K]; rfl
  have G1 := hgW.trans hb1
  rw [hsW] at hrun
  rw [hW] at hrun
  have HR := Lib.hid hrun
  clear hrun hb1 K hA hwW hgW hsW hW
  go_enter Try.func34, Try.ntmps34
  go_wp2_with (at_builtin; refine wpList_append_run rfl _ _ _ rfl _ _ _ rfl rfl HR.out ?_)
  clear HR y1
  go_loopw [0, 21] (fun b i w' => ∃ (j c' n' : Nat) (A' : Option Addr), j ≤ ln ∧ n' = n + (2 + 4 * j) ∧ i = .int .i64 (j : Int) ∧ b = .slice A' n' c' ∧ Bo w' w0.heap.size A' n' c' (l ++ [0, ln % 256] ++ Wr.limbs (mags.take j)) ∧ Gr w w' A A') (fun _ i _ => ln - (intOf i).toNat)
  case atStart => exact ⟨0, c1, n + 2, A1, Nat.zero_le _, rfl, rfl, rfl, by simpa [Wr.limbs] using hB1, G1⟩
  case round =>
    clear hB1 G1
    obtain ⟨j, c', n', A', hj, hn', rfl, rfl, hB, hG⟩ := hrel
    have HN := Lib.hid hn'
    clear hn'
    have hle : w0.heap.size ≤ wr.heap.size := Nat.le_trans hbase hG.g.size
    by_cases hjl : j < ln
    · have hd1 : decide ((j : Int) < (ln : Int)) = true := by rw [decide_eq_true_iff]; omega
      have hb2 := hb0.trans (Gr.below hG h hbase)
      have hl2 := hl.below hb2
      obtain ⟨b, o, rfl, hlt, hcell⟩ := hl2.2.2.2 (by omega)
      have hg := hcell j hjl
      clear hcell hl2
      have hx32 := Lm.lg_lt hl.2.2.1 j
      have hst := Lib.hid (limbs_take (l := mags) (j := j) (by have := hml.out; omega))
      go_wp2_with fail
      have Q := laidNumber_at wr w0.heap.size A' n' c' _ hB hle (by have := HN.out; omega) (Lm.lg mags j : Nat) 4 (Lm.lg mags j) 4 rfl rfl (by omega)
      (with_reducible refine Q.mono ?_)
      rintro e w2 ⟨A2, c2, rfl, hB2, hG2⟩
      rw [Wr.bes_len] at hB2 ⊢
      have HB2 := Lib.hid hB2
      have HG2 := Lib.hid (hG.trans hG2)
      clear hB hG hG2 hB2 hg
      go_wp2
      exact ⟨⟨j + 1, c2, n' + 4, A2, by omega, by have := HN.out; omega, by go_num, rfl, by rw [hst.out, ← List.append_assoc]; exact HB2.out, HG2.out⟩, by simp [intOf]; omega⟩
    · have hd1 : decide ((j : Int) < (ln : Int)) = false := by rw [decide_eq_false_iff_not]; omega
      have e : j = ln := by omega
      subst e
      go_wp2_with fail
      go_ret
      have e2 : mags.take j = mags := List.take_of_length_le (by have := hml.out; omega)
      rw [e2] at hB
      have e3 := HN.out
      have e4 : n + (0 :: j % 256 :: Wr.limbs mags).length = n' := by simp only [List.length_cons, Wr.limbs_len, hml.out]; omega
      refine ⟨A', c', ?_, ?_, hG⟩
      · rw [e4]; rfl
      · rw [e4]; simpa using hB
set_option maxRecDepth 100000 in
theorem laidInteger_any (w w0 : World) (A : Option Addr) (n c : Nat) (l : List Nat) (h : Bo w w0.heap.size A n c l) (hb0 : Below w0.heap.size w0 w) (g : Bool) (M : Option Addr) (ln lc : Nat) (mags : List Nat) (hl : Lim w0 M ln lc mags) (hln : ln ≤ 300) (hn : n ≤ 7000000) :
    Calls Try.prog 34 #[.slice A n c, .agg #[.bool g, .slice M ln lc]] w (LdP w w0.heap.size A n l ((if g then 1 else 0) :: ln % 256 :: Wr.limbs mags)) := by
  cases g
  · exact laidInteger_two w w0 A n c l h hb0 M ln lc mags hl hln hn
  · exact laidInteger_one w w0 A n c l h hb0 M ln lc mags hl hln hn
end Go.Proofs.Ytomohdfcggghoaa

namespace Go.Proofs.Ytomohdfcggghoaa
open Go.RowKit

set_option maxRecDepth 100000 in
theorem Box7.keep {w w' : World} {g : Nat} {r : TR} (h : Box7 w g r) (e : w'.heap[g]? = w.heap[g]?) : Box7 w' g r := e.trans h

set_option maxRecDepth 100000 in
set_option maxHeartbeats 4000000 in
theorem laid_any (t : Tm) : ∀ (w w0 : World) (r : TR), TV w0 r t → t.Ok → ∀ (A : Option Addr) (n c : Nat) (l : List Nat), Bo w w0.heap.size A n c l → Below w0.heap.size w0 w → n + (Wr.enc t).length ≤ 6000000 →
    Calls Try.prog 23 #[.slice A n c, .agg #[.int .i64 r.k, .int .i64 r.n, .bool r.g, .slice r.A r.ln r.lc, .int .u64 r.u, .string r.s, .slice r.B r.m r.d]] w (LdP w w0.heap.size A n l (Wr.enc t)) := by
  induction t using Tm.ind with
  | h k' nn g' l' u' s' ks ih =>
    intro w w0 r htv hok A n c l hB hb0 hlen
    have IH := Lib.hid ih
    clear ih
    have hbase := hb0.size
    obtain ⟨W, hW⟩ : ∃ W, W = w.alloc (.cells #[.int .i64 r.k, .int .i64 r.n, .bool r.g, .slice r.A r.ln r.lc, .int .u64 r.u, .string r.s, .slice r.B r.m r.d] 28) := ⟨_, rfl⟩
    have hwW : Below w.heap.size w W := by rw [hW]; exact (Below.refl w.heap.size w).alloc (Nat.le_refl _) _
    have hsW : W.heap.size = w.heap.size + 1 := by rw [hW]; simp
    have hgW : Gr w W A A := by rw [hW]; exact (Gr.refl w A).alloc _
    have kW : Box7 W w.heap.size r := by rw [hW]; exact Box7.new w r
    have hA := hB.below hwW
    have henc : (Wr.enc (Tm.mk k' nn g' l' u' s' ks)).length = 1 + (Wr.body r.k r.n r.g l' r.u r.s r.m).length + (Wr.encs ks).length := by rw [Wr.enc_eq, show (Tm.mk k' nn g' l' u' s' ks).args.length = r.m from htv.len, htv.kind, htv.num, htv.neg, htv.bits, htv.bytes, List.length_cons, List.length_append]; simp only [Tm.mag, Tm.args]; omega
    obtain ⟨A1, c1, w1, hrun, hB1, hb1⟩ := hA.puts (by omega) [(r.k % 256).toNat] (by intro y hy; simp at hy; omega) (by simp; omega) #[.int .u8 (r.k % 256)] (by simp [brr]; omega) 1 rfl
    have K1 := kW.keep (hb1.box (by omega) (hB.av (Nat.le_refl _)))
    have G1 := hgW.trans hb1
    have V1 := hb1.av (b := w.heap.size) (by omega) (hB.av (Nat.le_refl _))
    have z1 := hb1.g.size
    rw [hsW] at hrun
    rw [hW] at hrun
    have HR := Lib.hid hrun
    clear hrun hb1 hA hwW hgW kW
    have y0 := K1.at.c0; have y1 := K1.at.c1; have y2 := K1.at.c2; have y3 := K1.at.c3; have y4 := K1.at.c4; have y5 := K1.at.c5; have y6 := K1.at.c6
    go_enter Try.func23, Try.ntmps23
    go_upto_block 0 with (at_builtin; refine wpList_append_run rfl _ _ _ rfl _ _ _ rfl rfl HR.out ?_)
    clear HR
    have hle : w0.heap.size ≤ w1.heap.size := by omega
    obtain ⟨BD, hBD⟩ : ∃ BD, BD = Wr.body r.k r.n r.g l' r.u r.s r.m := ⟨_, rfl⟩
    rw [← hBD] at henc
    have HBD := Lib.hid hBD
    clear hBD
    go_cut [0] from 15 to 63 (fun b wx => ∃ (A' : Option Addr) (N c' : Nat), b = .slice A' N c' ∧ N = n + 1 + BD.length ∧ Bo wx w0.heap.size A' N c' (l ++ [(r.k % 256).toNat] ++ BD) ∧ Gr w1 wx A1 A')
    case first =>
      have hn1 : n + 1 ≤ 6000000 := by omega
      clear henc hlen
      by_cases h1 : r.k = 1
      · have d1 : (r.k == 1) = true := by rw [beq_iff_eq]; exact h1
        have bd := HBD.out
        rw [Wr.body, if_pos h1] at bd
        subst bd
        clear h1 HBD
        go_wp2_with fail
        have Q := laidNumber_at w1 w0.heap.size A1 (n + 1) c1 _ hB1 hle (by omega) (IntKind.u64.wrap r.n) 8 (r.n % 18446744073709551616).toNat 8 (by simp [IntKind.wrap, IntKind.bits, IntKind.signed]; omega) rfl (by omega)
        (with_reducible refine Q.mono ?_)
        rintro e w2 ⟨A2, c2, rfl, hB2, hG2⟩
        go_wp2
        go_meet
        exact ⟨A2, _, c2, rfl, rfl, hB2, hG2⟩
      have d1 : (r.k == 1) = false := by rw [beq_eq_false_iff_ne]; exact h1
      by_cases h2 : r.k = 2
      · have d2 : (r.k == 2) = true := by rw [beq_iff_eq]; exact h2
        have bd := HBD.out
        rw [Wr.body, if_neg h1, if_pos h2, show l'.length = r.ln from htv.magLen] at bd
        subst bd
        clear h1 h2 HBD
        go_wp2_with fail
        have Q := laidInteger_any w1 w0 A1 (n + 1) c1 _ hB1 (hb0.trans (G1.below hB hbase)) r.g r.A r.ln r.lc l' htv.flat.lim (Ok.limbs htv hok) (by omega)
        (with_reducible refine Q.mono ?_)
        rintro e w2 ⟨A2, c2, rfl, hB2, hG2⟩
        go_wp2
        go_meet
        exact ⟨A2, _, c2, rfl, rfl, hB2, hG2⟩
      have d2 : (r.k == 2) = false := by rw [beq_eq_false_iff_ne]; exact h2
      by_cases h3 : r.k = 3
      · have d3 : (r.k == 3) = true := by rw [beq_iff_eq]; exact h3
        have bd := HBD.out
        rw [Wr.body, if_neg h1, if_neg h2, if_pos h3] at bd
        subst bd
        clear h1 h2 h3 HBD
        go_wp2_with fail
        have Q := laidNumber_at w1 w0.heap.size A1 (n + 1) c1 _ hB1 hle (by omega) r.u 8 r.u.toNat 8 (by have := htv.flat.u0; omega) rfl (by omega)
        (with_reducible refine Q.mono ?_)
        rintro e w2 ⟨A2, c2, rfl, hB2, hG2⟩
        go_wp2
        go_meet
        exact ⟨A2, _, c2, rfl, rfl, hB2, hG2⟩
      have d3 : (r.k == 3) = false := by rw [beq_eq_false_iff_ne]; exact h3
      by_cases h4 : r.k = 4 ∨ r.k = 5
      · obtain ⟨A2, c2, w2, hrun, hB2, hG2⟩ := hB1.puts hle [(r.n % 256).toNat] (by intro y hy; simp at hy; omega) (by simp; omega) #[.int .u8 (r.n % 256)] (by simp [brr]; omega) 1 rfl
        have HR := Lib.hid hrun
        have bd := HBD.out
        rw [Wr.body, if_neg h1, if_neg h2, if_neg h3, if_pos h4] at bd
        subst bd
        clear h1 h2 h3 HBD hrun
        rcases h4 with h4 | h4
        · have d4 : (r.k == 4) = true := by rw [beq_iff_eq]; exact h4
          clear h4
          go_wp2_with (at_builtin; refine wpList_append_run rfl _ _ _ rfl _ _ _ rfl rfl HR.out ?_)
          go_meet
          exact ⟨A2, _, c2, rfl, rfl, hB2, hG2⟩
        · have d4 : (r.k == 4) = false := by rw [beq_eq_false_iff_ne]; omega
          have d5 : (r.k == 5) = true := by rw [beq_iff_eq]; exact h4
          clear h4
          go_wp2_with (at_builtin; refine wpList_append_run rfl _ _ _ rfl _ _ _ rfl rfl HR.out ?_)
          go_meet
          exact ⟨A2, _, c2, rfl, rfl, hB2, hG2⟩
      have d4 : (r.k == 4) = false := by rw [beq_eq_false_iff_ne]; omega
      have d5 : (r.k == 5) = false := by rw [beq_eq_false_iff_ne]; omega
      by_cases h6 : r.k = 6
      · have d6 : (r.k == 6) = true := by rw [beq_iff_eq]; exact h6
        obtain ⟨A2, c2, w2, hrun, hB2, hG2⟩ := hB1.puts hle [r.m % 256] (by intro y hy; simp at hy; omega) (by simp; omega) #[.int .u8 ((r.m : Int) % 256)] (by simp [brr]) 1 rfl
        have HR := Lib.hid hrun
        have bd := HBD.out
        rw [Wr.body, if_neg h1, if_neg h2, if_neg h3, if_neg h4, if_pos h6] at bd
        subst bd
        clear h1 h2 h3 h4 h6 HBD hrun
        go_wp2_with (at_builtin; refine wpList_append_run rfl _ _ _ rfl _ _ _ rfl rfl HR.out ?_)
        go_meet
        exact ⟨A2, _, c2, rfl, rfl, hB2, hG2⟩
      have d6 : (r.k == 6) = false := by rw [beq_eq_false_iff_ne]; exact h6
      by_cases h9 : r.k = 9
      · have d9 : (r.k == 9) = true := by rw [beq_iff_eq]; exact h9
        have bd := HBD.out
        rw [Wr.body, if_neg h1, if_neg h2, if_neg h3, if_neg h4, if_neg h6, if_pos h9] at bd
        subst bd
        clear h1 h2 h3 h4 h6 h9 HBD
        have hs := Ok.bytes htv hok
        go_wp2_with fail
        have Q := laidNumber_at w1 w0.heap.size A1 (n + 1) c1 _ hB1 hle (by omega) (r.s.size : Nat) 2 r.s.size 2 rfl rfl (by omega)
        (with_reducible refine Q.mono ?_)
        rintro e w2 ⟨A2, c2, rfl, hB2, hG2⟩
        rw [Wr.bes_len] at hB2 ⊢
        obtain ⟨A3, c3, w3, hrun, hB3, hG3⟩ := hB2.text (Nat.le_trans hle hG2.g.size) r.s (by omega)
        have HR := Lib.hid hrun
        clear hrun
        have K2 := K1.keep (hG2.box (by omega) V1)
        clear y0 y1 y2 y3 y4 y5 y6
        have y0 := K2.at.c0; have y1 := K2.at.c1; have y2 := K2.at.c2; have y3 := K2.at.c3; have y4 := K2.at.c4; have y5 := K2.at.c5; have y6 := K2.at.c6
        go_wp2_with (at_builtin; refine wpList_append_run2 rfl _ _ _ _ rfl _ _ _ rfl rfl HR.out ?_)
        go_meet
        refine ⟨A3, _, c3, rfl, by rw [List.length_append, Wr.bes_len, Wr.txt_len]; omega, by rw [← List.append_assoc]; exact hB3, hG2.trans hG3⟩
      have d9 : (r.k == 9) = false := by rw [beq_eq_false_iff_ne]; exact h9
      have bd := HBD.out
      rw [Wr.body, if_neg h1, if_neg h2, if_neg h3, if_neg h4, if_neg h6, if_neg h9] at bd
      subst bd
      clear h1 h2 h3 h4 h6 h9 HBD
      go_wp2
      go_meet
      exact ⟨A1, _, c1, rfl, rfl, by simpa using hB1, Gr.refl _ _⟩
    obtain ⟨A2, N, c2, rfl, hN, hB2, hG2⟩ := hcut
    have K2 := K1.keep (hG2.box (by omega) V1)
    have G2 := G1.trans hG2
    have hts : TVs w0 r.B r.m r.d ks := htv.args
    have hkl := Lib.hid hts.len
    have hmd := htv.flat.md
    have hdd := htv.flat.dd
    unfold maxLen at hdd
    have HN := Lib.hid hN
    have HE := Lib.hid henc
    have HL := Lib.hid hlen
    clear y0 y1 y2 y3 y4 y5 y6 K1 G1 V1 z1 hB1 hG2 hN henc hlen hle hsW hW
    have y0 := K2.at.c0; have y1 := K2.at.c1; have y2 := K2.at.c2; have y3 := K2.at.c3; have y4 := K2.at.c4; have y5 := K2.at.c5; have y6 := K2.at.c6
    go_wp2_with fail
    clear y0 y1 y2 y3 y4 y5 y6 K2
    go_loopw [0, 67] (fun b i w' => ∃ (j c' n' : Nat) (A' : Option Addr), j ≤ r.m ∧ n' = N + (Wr.encs (ks.take j)).length ∧ i = .int .i64 (j : Int) ∧ b = .slice A' n' c' ∧ Bo w' w0.heap.size A' n' c' (l ++ [(r.k % 256).toNat] ++ BD ++ Wr.encs (ks.take j)) ∧ Gr w w' A A') (fun _ i _ => r.m - (intOf i).toNat)
    case atStart => exact ⟨0, c2, N, A2, Nat.zero_le _, rfl, rfl, rfl, by simpa [Wr.encs] using hB2, G2⟩
    case round =>
      clear hB2 G2
      obtain ⟨j, c', n', A', hj, hn', rfl, rfl, hB', hG⟩ := hrel
      have HN' := Lib.hid hn'
      clear hn'
      have hbw := hb0.trans (hG.below hB hbase)
      have hle := hbw.size
      by_cases hjm : j < r.m
      · have hd1 : decide ((j : Int) < (r.m : Int)) = true := by rw [decide_eq_true_iff]; omega
        obtain ⟨b, o, r', t', e, hlt, h7, het, htv'⟩ := hts.get j hjm
        have hmem := List.mem_of_getElem? het
        have h7' := h7.below hbw hlt
        have hB2 := hB'.below ((Below.refl _ _).alloc (Nat.le_refl _) (.cells #[.int .i64 r'.k, .int .i64 r'.n, .bool r'.g, .slice r'.A r'.ln r'.lc, .int .u64 r'.u, .string r'.s, .slice r'.B r'.m r'.d] 28))
        have hst := Wr.encs_take het
        have hlt2 := Wr.encs_le ks (j + 1)
        rw [hst, List.length_append] at hlt2
        have Q := IH.out t' hmem (wr.alloc (.cells #[.int .i64 r'.k, .int .i64 r'.n, .bool r'.g, .slice r'.A r'.ln r'.lc, .int .u64 r'.u, .string r'.s, .slice r'.B r'.m r'.d] 28)) w0 r' htv' (Ok.kids (t := .mk k' nn g' l' u' s' ks) hok hmem) A' n' c' _ hB2 (hbw.alloc hle _) (by have := HN'.out; have := HN.out; have := HE.out; have := HL.out; omega)
        have hst' := Lib.hid hst
        have HG := Lib.hid (hG.alloc (.cells #[.int .i64 r'.k, .int .i64 r'.n, .bool r'.g, .slice r'.A r'.ln r'.lc, .int .u64 r'.u, .string r'.s, .slice r'.B r'.m r'.d] 28))
        rw [e]
        have x0 := h7'.c0; have x1 := h7'.c1; have x2 := h7'.c2; have x3 := h7'.c3; have x4 := h7'.c4; have x5 := h7'.c5; have x6 := h7'.c6
        clear hst hB' hB2 hG hlt2
        go_wp2_with fail
        (with_reducible refine Q.mono ?_)
        rintro e w2 ⟨A3, c3, rfl, hB3, hG3⟩
        clear x0 x1 x2 x3 x4 x5 x6
        have HB3 := Lib.hid hB3
        clear hB3
        go_wp2
        exact ⟨⟨j + 1, c3, _, A3, by omega, by rw [hst'.out, List.length_append]; have := HN'.out; omega, by go_num, rfl, by rw [hst'.out, ← List.append_assoc]; exact HB3.out, HG.out.trans hG3⟩, by simp [intOf]; omega⟩
      · have hd1 : decide ((j : Int) < (r.m : Int)) = false := by rw [decide_eq_false_iff_not]; omega
        have e : j = r.m := by omega
        go_wp2_with fail
        go_ret
        have e2 : ks.take j = ks := List.take_of_length_le (by have := hkl.out; omega)
        rw [e2] at hB'
        have e3 := HN'.out
        rw [e2] at e3
        have e4 : n + (Wr.enc (.mk k' nn g' l' u' s' ks)).length = n' := by have := HE.out; have := HN.out; omega
        have e5 : Wr.enc (.mk k' nn g' l' u' s' ks) = [(r.k % 256).toNat] ++ BD ++ Wr.encs ks := by
          rw [Wr.enc_eq, HBD.out, show (Tm.mk k' nn g' l' u' s' ks).args.length = r.m from htv.len, htv.kind, htv.num, htv.neg, htv.bits, htv.bytes]
          simp [Tm.mag, Tm.args]
        refine ⟨A', c', ?_, ?_, hG⟩
        · rw [e4]; rfl
        · rw [e4, e5]; simpa using hB'
end Go.Proofs.Ytomohdfcggghoaa

namespace Go.Proofs.Ytomohdfcggghoaa
open Go.RowKit

/-- What Lay leaves, where the term may be. -/
def LyY (w : World) (t : Tm) (e : Ending) (w' : World) : Prop :=
  ∃ A c, e = .returned (.tuple #[.slice A (Wr.enc t).length c, .int .i64 0]) ∧ Bo w' w.heap.size A (Wr.enc t).length c (Wr.enc t) ∧ Below w.heap.size w w'
/-- What Lay leaves, where it may not. -/
def LyN (w : World) (e : Ending) (w' : World) : Prop := e = .returned (.tuple #[.slice none 0 0, .int .i64 2]) ∧ Below w.heap.size w w'

set_option maxRecDepth 100000 in
set_option maxHeartbeats 1000000 in
theorem lay_yes (w : World) (r : TR) (t : Tm) (h : TV w r t) (ho : t.Ok) (hm : t.mayB = true) : Calls Try.prog 9 #[.agg #[.int .i64 r.k, .int .i64 r.n, .bool r.g, .slice r.A r.ln r.lc, .int .u64 r.u, .string r.s, .slice r.B r.m r.d]] w (LyY w t) := by
  have I := BxI.new h
  have hsz := (Wr.may_size hm).2
  have hen := Wr.enc_short t (Wr.may_size hm).1
  go_enter Try.func9, Try.ntmps9
  go_wp2_with fail
  generalize w.alloc (.cells #[.int .i64 r.k, .int .i64 r.n, .bool r.g, .slice r.A r.ln r.lc, .int .u64 r.u, .string r.s, .slice r.B r.m r.d] 28) = W at *
  refine (mayTerm_any W r t I.tv ho).mono ?_
  rw [hm]
  rintro e w1 ⟨rfl, hb1⟩
  have I1 := I.below hb1
  clear I
  have y0 := I1.bx.at.c0; have y1 := I1.bx.at.c1; have y2 := I1.bx.at.c2; have y3 := I1.bx.at.c3; have y4 := I1.bx.at.c4; have y5 := I1.bx.at.c5; have y6 := I1.bx.at.c6
  have Q := laid_any t w1 w r h ho none 0 0 [] (Bo.nil _ _) I1.be (by omega)
  go_wp2_with fail
  (with_reducible refine Q.mono ?_)
  rintro e w2 ⟨A, c, rfl, hB, hG⟩
  rw [List.nil_append, Nat.zero_add] at hB
  rw [Nat.zero_add]
  clear y0 y1 y2 y3 y4 y5 y6
  go_wp2
  go_ret2
  exact ⟨A, c, rfl, hB, I1.be.trans (hG.below (Bo.nil _ _) I1.be.size)⟩

set_option maxRecDepth 100000 in
set_option maxHeartbeats 1000000 in
theorem lay_no (w : World) (r : TR) (t : Tm) (h : TV w r t) (ho : t.Ok) (hm : t.mayB = false) : Calls Try.prog 9 #[.agg #[.int .i64 r.k, .int .i64 r.n, .bool r.g, .slice r.A r.ln r.lc, .int .u64 r.u, .string r.s, .slice r.B r.m r.d]] w (LyN w) := by
  have I := BxI.new h
  go_enter Try.func9, Try.ntmps9
  go_wp2_with fail
  generalize w.alloc (.cells #[.int .i64 r.k, .int .i64 r.n, .bool r.g, .slice r.A r.ln r.lc, .int .u64 r.u, .string r.s, .slice r.B r.m r.d] 28) = W at *
  refine (mayTerm_any W r t I.tv ho).mono ?_
  rw [hm]
  rintro e w1 ⟨rfl, hb1⟩
  go_wp2
  go_ret2
  exact ⟨rfl, (I.below hb1).be⟩
end Go.Proofs.Ytomohdfcggghoaa
